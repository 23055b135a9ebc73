/- MoneyAnswers returns true for every input: all functions of package money return what the chapter specifies; no condition. -/
import Derived.Test.YtbndcjbnpgdpjaaAnswers
import Derived.Test.YtbndcjbnpgdpjaaArgs
namespace Go.Proofs.Ytbndcjbnpgdpjaa
open Go.ChangeShapes Go.WideShapes Go.ChangeAt Go.RowKit

/-- A slice of int64s holds some list. -/
theorem rowAt_ints {W : World} {v : Value} {n : Nat} (h : IntsAt W v n W.heap.size) : ∃ l : List Int, l.length = n ∧ RowAt W v l := by
  obtain ⟨ao, cap, rfl, hcap, hx⟩ := h
  by_cases h0 : n = 0
  · subst h0
    exact ⟨[], rfl, Or.inl ⟨rfl, ao, cap, rfl⟩⟩
  · obtain ⟨b, o, x0, rfl, hb, _⟩ := hx 0 (by omega)
    let l := (List.range n).map fun i => match W.cell? ⟨b, o + i, none⟩ with | some (.int _ x) => x | _ => 0
    have hl : l.length = n := by simp [l]
    refine ⟨l, hl, Or.inr ⟨b, o, cap, by rw [hl], hb, fun i hi => ?_⟩⟩
    rw [hl] at hi
    obtain ⟨b', o', x, he, _, hc, _⟩ := hx i hi
    simp only [Option.some.injEq, Addr.mk.injEq, and_true] at he
    obtain ⟨rfl, rfl⟩ := he
    have : l.getD i 0 = x := by
      simp [l, List.getD, List.getElem?_map, List.getElem?_range hi, hc]
    rw [this]
    exact hc

set_option maxRecDepth 100000 in
set_option maxHeartbeats 400000 in
theorem answers_long (v : Value) (ao : Option Addr) (n cap : Nat) (a b c : Int) (w : World) (hn : 300 < n) :
    Calls Try.prog 3 #[v, .int .i64 a, .int .i64 b, .int .i64 c, .slice ao n cap] w fun e w' => e = .returned (.bool true) ∧ Below w.heap.size w w' := by
  have HAW := Lib.hid (awake_any w)
  go_enter Try.func3, Try.ntmps3
  go_wp2_with fail
  refine (HAW.out).mono ?_
  rintro e w14 ⟨rfl, hb14⟩
  have HB14 := Lib.hid hb14
  clear hb14
  go_wp2_with fail
  go_ret
  exact ⟨rfl, HB14.out⟩

set_option maxRecDepth 100000 in
theorem answers_lifted (os : Os) (started : os.Started) (H : Type) (enc : TypeId × Value → H) :
    ReturnsInHanded {} Try.checked os 3 .any (Rows.moneyAnswersSpec.pre6 enc Try.prog Try.f3 Rows.moneyAnswersRow.domain false) (Rows.moneyAnswersSpec.post enc Try.prog Try.f3 false true false false) := by
  refine returnsInHanded_of_change (C := Try.checked) Try.own started (by kernel_rfl) Try.func3
    (ChangeSpec.witness6 (enc := enc) (C := Try.checked) false ⟨#[], #[.slice none 0 0, .int .i64 0, .int .i64 0, .int .i64 0, .slice none 0 0], []⟩ 8 (by kernel_rfl) (by kernel_rfl) (by kernel_rfl) (by kernel_rfl)) ?_
  intro W base args ds gs before hval0 hW hcnd _
  have hval : ∀ (j : Nat) t v, Try.f3.params[j]? = some t → args[j]? = some v → Value.okWide Try.prog W .any base t v := hval0
  have hW' := hW
  obtain ⟨p, q, hA0, hV, rfl, hfz, hnd⟩ := hW
  have hA : DataW.TrodAll enc Try.prog W 0 (fun _ => true) true Try.f3.params.toList args.toList ds p := hA0
  rw [Try.params3] at hA hval
  obtain ⟨v0, vs0, d0, ds0, p0, q0, hargs, rfl, rfl, h0, r0⟩ := trodAll_cons hA
  obtain ⟨v1, vs1, d1, ds1, p1, q1, rfl, rfl, rfl, h1, r1⟩ := trodAll_cons r0
  obtain ⟨v2, vs2, d2, ds2, p2, q2, rfl, rfl, rfl, h2, r2⟩ := trodAll_cons r1
  obtain ⟨v3, vs3, d3, ds3, p3, q3, rfl, rfl, rfl, h3, r3⟩ := trodAll_cons r2
  obtain ⟨v4, vs4, d4, ds4, p4, q4, rfl, rfl, rfl, h4, r4⟩ := trodAll_cons r3
  obtain ⟨rfl, rfl, rfl⟩ := trodAll_nil r4
  obtain rfl : args = #[v0, v1, v2, v3, v4] := by cases args; simp_all
  obtain ⟨rfl, rfl⟩ := trodVars_none hV
  obtain ⟨a1, rfl, rfl, rfl, w1⟩ := open_int Try.underlying3 (hval 1 3 v1 rfl rfl) h1
  obtain ⟨a2, rfl, rfl, rfl, w2⟩ := open_int Try.underlying3 (hval 2 3 v2 rfl rfl) h2
  obtain ⟨a3, rfl, rfl, rfl, w3⟩ := open_int Try.underlying3 (hval 3 3 v3 rfl rfl) h3
  clear hA0 hval0
  simp only [List.append_nil, List.nil_append] at hW'
  have hlt0 : ∀ x ∈ p0, x.block < W.heap.size := fun x hx => hW'.lt x (by simp [hx])
  have hlt4 : ∀ x ∈ p4, x.block < W.heap.size := fun x hx => hW'.lt x (by simp [hx])
  obtain ⟨n, hn, hi⟩ := ints_arg (hval 0 22 v0 rfl rfl) h0
  obtain ⟨m, hm, hj⟩ := ints_arg (hval 4 22 v4 rfl rfl) h4
  have hgo : Calls Try.prog 3 #[v0, .int .i64 a1, .int .i64 a2, .int .i64 a3, v4] W fun e w' => e = .returned (.bool true) ∧ Below W.heap.size W w' := by
    by_cases hlong : 300 < m
    · obtain ⟨ao, cap, rfl, _⟩ := hj
      exact answers_long v0 ao m cap a1 a2 a3 W hlong
    · obtain ⟨l, hl, hr⟩ := rowAt_ints hj
      exact answers_any v0 v4 n a1 a2 a3 l W hi hn hr (by omega)
  refine hgo.mono fun e W' ⟨he, hg⟩ => ?_
  subst he
  have harg0 := Below.trod Try.laidOut (by kernel_rfl) (of_decide_eq_true (by kernel_rfl)) h0 hg hlt0
  have harg4 := Below.trod Try.laidOut (by kernel_rfl) (of_decide_eq_true (by kernel_rfl)) h4 hg hlt4
  exact ⟨_, rfl, _, [], _, [], _, [], hW', trodAll_cons_mk (shut_bool Try.underlying4 _) trodAll_mk0, trodAll_cons_mk harg0 (trodAll_cons_mk (shut_int Try.underlying3 w1) (trodAll_cons_mk (shut_int Try.underlying3 w2) (trodAll_cons_mk (shut_int Try.underlying3 w3) (trodAll_cons_mk harg4 trodAll_mk0)))), rfl, hg.frame _, fun h => by cases h⟩

theorem moneyAnswers_holds : Rows.MoneyAnswersSaid :=
  OpenClaim.holds_of_wide 3 Try.f3 rfl rfl rfl rfl rfl rfl rfl ⟨rfl, rfl, rfl, rfl, rfl⟩ rfl rfl rfl rfl rfl (by kernel_rfl) Try.func3 (by kernel_rfl)
    (of_decide_eq_true (by kernel_rfl)) (by unfold Func.isWrapper; first | (rw [if_pos (by decide +kernel)]; kernel_rfl) | (rw [if_neg (by decide +kernel)]; exact ⟨rfl, rfl⟩))
    (fun os started H enc _ => answers_lifted os started H enc)

end Go.Proofs.Ytbndcjbnpgdpjaa
