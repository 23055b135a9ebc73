/- MoneyParts returns true for every input: parts add up to the amount, each differs by less than 1 from its exact share, nothing goes to a weight of 0, a greater weight never gets less; no condition. -/
import Derived.Test.YtbndcjbnpgdpjaaMParts
import Derived.Test.YtbndcjbnpgdpjaaLaw
namespace Go.Proofs.Ytbndcjbnpgdpjaa
open Go.ChangeShapes Go.WideShapes Go.ChangeAt Go.RowKit

theorem Try.cellsInt : Try.prog.cellsOf 3 = 1 := by kernel_rfl

/-- An argument of type []int is a slice of int64s. -/
theorem ints_arg {H : Type} {enc : TypeId × Value → H} {W : World} {base : Nat} {v : Value} {d : DataW H} {p0 : List MemPlace} (hv : Value.okWide Try.prog W .any base 22 v) (h0 : DataW.Trod enc Try.prog W 0 (fun _ => true) true 22 v d p0) :
    ∃ n, n ≤ 9223372036854775807 ∧ IntsAt W v n W.heap.size := by
  obtain ⟨a0, len, cap, rfl⟩ := okWide_slice Try.underlying22 hv
  obtain ⟨fuel, hf⟩ := h0
  rcases open_ints Try.underlying22 Try.underlying3 Try.cellsInt hf with ⟨hcs, hx⟩ | ⟨a, len', cap', zs, hcs, _, hl, hm, hz, hx, hcell, hwz⟩
  · simp [Value.cells] at hcs
    obtain ⟨rfl, rfl, rfl⟩ := hcs
    exact ⟨0, by omega, none, 0, rfl, Nat.le_refl _, fun i hi => by omega⟩
  · simp [Value.cells] at hcs
    obtain ⟨rfl, rfl, rfl⟩ := hcs
    simp only [if_true] at hz
    refine ⟨len, by unfold maxLen at hm; omega, some a, cap, rfl, hl, fun i hi => ?_⟩
    obtain ⟨b, off, spot⟩ := a
    have hspot : spot = none := by simpa [Addr.add] using World.cell?_spot (hcell 0 (by omega))
    subst hspot
    have hi' : i < zs.length := by omega
    have hc := hcell i hi'
    have hw := hwz _ (List.getElem_mem hi')
    simp only [Lit.wf, Bool.and_eq_true, decide_eq_true_eq] at hw
    rw [getD_eq hi', add_plain] at hc
    refine ⟨b, off, zs[i], rfl, ?_, hc, Int.le_trans (by decide) hw.1, Int.le_trans hw.2 (by decide)⟩
    by_cases hb : b < W.heap.size
    · exact hb
    · rw [World.cell?, show W.heap[b]? = none from Array.getElem?_eq_none (by omega)] at hc
      cases hc

set_option maxRecDepth 100000 in
theorem mparts_lifted (os : Os) (started : os.Started) (H : Type) (enc : TypeId × Value → H) :
    ReturnsInHanded {} Try.checked os 4 .any (Rows.moneyPartsSpec.pre6 enc Try.prog Try.f4 Rows.moneyPartsRow.domain false) (Rows.moneyPartsSpec.post enc Try.prog Try.f4 false true false false) := by
  refine returnsInHanded_of_change (C := Try.checked) Try.own started (by kernel_rfl) Try.func4
    (ChangeSpec.witness6 (enc := enc) (C := Try.checked) false ⟨#[], #[.slice none 0 0], []⟩ 8 (by kernel_rfl) (by kernel_rfl) (by kernel_rfl) (by kernel_rfl)) ?_
  intro W base args ds gs before hval0 hW hcnd _
  have hval : ∀ (j : Nat) t v, Try.f4.params[j]? = some t → args[j]? = some v → Value.okWide Try.prog W .any base t v := hval0
  have hW' := hW
  obtain ⟨p, q, hA0, hV, rfl, hfz, hnd⟩ := hW
  have hA : DataW.TrodAll enc Try.prog W 0 (fun _ => true) true Try.f4.params.toList args.toList ds p := hA0
  rw [Try.params4] at hA hval
  obtain ⟨v0, vs0, d0, ds0, p0, q0, hargs, rfl, rfl, h0, r0⟩ := trodAll_cons hA
  obtain ⟨rfl, rfl, rfl⟩ := trodAll_nil r0
  obtain rfl : args = #[v0] := by cases args; simp_all
  obtain ⟨rfl, rfl⟩ := trodVars_none hV
  clear hA0 hval0
  simp only [List.append_nil] at hW'
  have hlt : ∀ x ∈ p0, x.block < W.heap.size := fun x hx => by simpa using hW'.lt x hx
  obtain ⟨n, hn, hi⟩ := ints_arg (hval 0 22 v0 rfl rfl) h0
  refine (mparts_any v0 n W hi hn).mono fun e W' ⟨he, hg⟩ => ?_
  subst he
  have harg := Below.trod Try.laidOut (by kernel_rfl) (of_decide_eq_true (by kernel_rfl)) h0 hg hlt
  exact ⟨_, rfl, [d0], [], _, [], p0 ++ [], [], hW', trodAll_cons_mk (shut_bool Try.underlying4 _) trodAll_mk0, trodAll_cons_mk harg trodAll_mk0, rfl, hg.frame _, fun h => by cases h⟩

theorem moneyParts_holds : Rows.MoneyPartsSaid :=
  OpenClaim.holds_of_wide 4 Try.f4 rfl rfl rfl rfl rfl rfl rfl ⟨rfl, rfl, rfl, rfl, rfl⟩ rfl rfl rfl rfl rfl (by kernel_rfl) Try.func4 (by kernel_rfl)
    (of_decide_eq_true (by kernel_rfl)) (by unfold Func.isWrapper; first | (rw [if_pos (by decide +kernel)]; kernel_rfl) | (rw [if_neg (by decide +kernel)]; exact ⟨rfl, rfl⟩))
    (fun os started H enc _ => mparts_lifted os started H enc)

end Go.Proofs.Ytbndcjbnpgdpjaa
