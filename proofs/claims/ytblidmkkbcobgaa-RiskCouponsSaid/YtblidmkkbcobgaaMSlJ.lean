/- slices.Index at []int, with the place that it finds, on a row of the call's own. -/
import Derived.Test.YtblidmkkbcobgaaMG1
import Derived.Test.YtblidmkkbcobgaaMG2
import Derived.IntWalk
set_option linter.unusedSimpArgs false
set_option linter.unusedVariables false
set_option linter.unusedSimpArgs false
set_option linter.unusedVariables false
namespace Go.Proofs.Ytblidmkkbcobgaa
open Go.RowKit Go.Lib Go.Proofs

set_option maxHeartbeats 2000000 in
theorem slIxJ_any (base : Nat) (l : List Int) (x : Int) (v : Value) (w : World) (ho : w.ownsRow base 3 1 v l.length (cellsI l)) (hl : l.length ≤ 1000000) :
    Calls Try.prog 60 #[v, .int .i64 x] w fun e w' => ∃ i : Int, e = .returned (.int .i64 i) ∧ ((i = -1 ∧ x ∉ l) ∨ (∃ k : Nat, i = (k : Int) ∧ l[k]? = some x)) ∧ Below w.heap.size w w' := by
  obtain ⟨ao, cap, rfl, hcap, ha⟩ := owns_gen ho
  obtain ⟨n, hn⟩ : ∃ n, n = l.length := ⟨_, rfl⟩
  have HC : Hid (∀ W, Below w.heap.size w W → ∀ k (hk : k < l.length), ∃ g, ao = some ⟨g, 0, none⟩ ∧ W.cell? ⟨g, k, none⟩ = some (.int .i64 l[k])) := Lib.hid fun W hW k hk => by
    rcases ha with ⟨_, h0, _⟩ | ⟨g, rfl, _⟩
    · omega
    · have h := (ownsRow_below ho hW).cells (g := g) rfl k (.int .i64 l[k]) (by simp [cellsI, hk])
      rw [Addr.add_lit] at h
      rw [Nat.zero_add] at h
      exact ⟨g, rfl, h⟩
  have HN := Lib.hid hn
  rw [← hn] at hl hcap ⊢
  clear ho ha hn
  go_enter Try.func60, Try.ntmps60
  go_wp2
  go_loopw [5, 8] (fun pv iv wr => ∃ k : Nat, iv = .int .i64 (k : Int) ∧ k ≤ n ∧ Hid (x ∉ l.take k) ∧ Hid (Below w.heap.size w wr)) (fun _ iv _ => n - (RowKit.intOf iv).toNat)
  case atStart => exact ⟨0, rfl, by omega, Lib.hid (by simp), Lib.hid (Below.refl _ _)⟩
  case round =>
    obtain ⟨k, rfl, hkn, HF, HB⟩ := hrel
    by_cases hlt : k < n
    · have hlx : k < l.length := by rw [← HN.out]; exact hlt
      obtain ⟨g, rfl, c0⟩ := HC.out wr HB.out k hlx
      have HTK : Hid (l.take (k + 1) = l.take k ++ [l[k]]) := Lib.hid (List.take_succ_eq_append_getElem hlx)
      have HMM : Hid (l[k]? = some l[k]) := Lib.hid (List.getElem?_eq_getElem hlx)
      obtain ⟨y, hy⟩ : ∃ y, y = l[k] := ⟨_, rfl⟩
      rw [← hy] at HMM HTK c0
      clear hy
      have hk0 : (0 : Int) ≤ (k : Int) := by omega
      have hk1 : (k : Int) < (n : Int) := by omega
      have hwk : IntKind.i64.wrap ((k : Int) + 1) = (k : Int) + 1 := IntWalk.i64_in _ (by omega)
      clear HC
      by_cases hxy : x = y
      · subst hxy
        go_wp2
        go_ret
        exact ⟨k, rfl, Or.inr ⟨k, rfl, HMM.out⟩, HB.out⟩
      · have hbe : (x == y) = false := beq_eq_false_iff_ne.2 hxy
        have HF2 : Hid (x ∉ l.take (k + 1)) := Lib.hid (by rw [HTK.out]; simp only [List.mem_append, List.mem_singleton, not_or]; exact ⟨HF.out, hxy⟩)
        go_wp2
        go_roundw
        case rel => first | exact ⟨k + 1, by first | rfl | go_num, by omega, HF2, HB⟩ | ((repeat apply Exists.intro); exact ⟨⟨k + 1, by first | rfl | go_num, by omega, HF2, HB⟩, rfl⟩)
        case measure => simp [RowKit.intOf]; omega
    · obtain rfl : k = n := by omega
      have HF2 : Hid (x ∉ l) := Lib.hid (by have := HF.out; rwa [HN.out, List.take_length] at this)
      clear HC
      go_wp2
      go_ret
      exact ⟨-1, rfl, Or.inl ⟨rfl, HF2.out⟩, HB.out⟩

end Go.Proofs.Ytblidmkkbcobgaa
