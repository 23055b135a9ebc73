/- The source's paths of rates: for every tape. -/
import Derived.Test.YtblidmkkbcobgaaMG3
import Derived.Test.YtblidmkkbcobgaaMG2
import Derived.Test.YtblidmkkbcobgaaMG11
import Derived.IntWalk
set_option linter.unusedSimpArgs false
set_option linter.unusedVariables false
set_option linter.unusedSimpArgs false
set_option linter.unusedVariables false
namespace Go.Proofs.Ytblidmkkbcobgaa
open Go.RowKit Go.Lib Go.Proofs

/-- What Rates hands back. -/
def RatesPost (w : World) (tb : Nat) (e : Ending) (w' : World) : Prop := ∃ v l, e = .returned v ∧ 1 ≤ l.length ∧ l.length ≤ 6 ∧ RatesOk l ∧ w'.ownsRow w.heap.size 3 1 v l.length (cellsI l) ∧ SI w tb w' ∧ w.grownBy w' (some tb)

set_option maxRecDepth 100000 in
set_option maxHeartbeats 4000000 in
theorem sRates_any (tb : Nat) (w : World) (hs : SrcAt w tb) : Calls Try.prog 14 #[.pointer (some ⟨tb, 0, none⟩)] w (RatesPost w tb) := by
  obtain ⟨i0, hi0, hz0, hz1, hz2⟩ := info_parts Try.infoInt
  have HS := Lib.hid (si_start hs)
  have hlt := hs.lt
  clear hs
  go_enter Try.func14, Try.ntmps14
  go_wp2_with fail
  with_reducible refine Calls.mono (range_in HS.out 1 6 (by omega) (by omega) (by omega)) ?_
  rintro e w1 ⟨k0, rfl, h1, h6, hi, hg⟩
  have HI := Lib.hid hi
  clear hi hg HS
  go_wp2
  go_loopw [3, 4] (fun ov kv wr => ∃ (l : List Int) (k : Int), kv = .int .i64 k ∧ 0 ≤ k ∧ (l.length : Int) + k = k0 ∧ Hid (RatesOk l) ∧ wr.ownsRow w.heap.size 3 1 ov l.length (cellsI l) ∧ Hid (SI w tb wr)) (fun _ kv _ => (RowKit.intOf kv).toNat)
  case atStart => exact ⟨[], k0, rfl, by omega, by simp, Lib.hid (fun q hq => by simp at hq), World.ownsRow_nil _ _ _ _, HI⟩
  case round =>
    clear HI
    obtain ⟨l, k, rfl, hk0, hlk, HQ, hown, HSI⟩ := hrel
    by_cases hk : 0 < k
    · obtain ⟨ao, cap, rfl, hcap, -⟩ := owns_gen hown
      go_wp2_with fail
      with_reducible refine Calls.mono (pick_in _ [0, 1000, 5000, 20000] _ _ rfl HSI.out (by simp) (by simp) _ rfl _ (by simp)) ?_
      rintro e w2 ⟨q, rfl, hqm, hi2, hg2⟩
      have hown1 := ownsRow_below hown (below_alloc wr (.cells #[.int .i64 0, .int .i64 1000, .int .i64 5000, .int .i64 20000] 3))
      have hown2 := hown1.kept hg2 (ownBlock_ne hown1 tb hlt)
      have HI2 := Lib.hid hi2
      have hle := hi2.old.size
      have HQ2 : Hid (RatesOk (l ++ [q])) := Lib.hid fun x hx => by
        rcases List.mem_append.1 hx with hx | hx
        · exact HQ.out x hx
        · rw [List.mem_singleton] at hx; subst hx; simp at hqm; omega
      have hwk : IntKind.i64.wrap (k - 1) = k - 1 := IntWalk.i64_in _ (by omega)
      clear hown hown1 hg2 hi2 HSI hqm
      go_wp2_with (at_builtin; refine wpList_append_own _ rfl _ _ 22 rfl w.heap.size 3 i0 (.int .i64 0) 1 8 Try.underlying22 hi0 hz0 hz1 hz2 rfl (by decide) _ _ _ rfl (hown2.alloc _) ⟨w2.heap.size, 0, none⟩ 1 1 [.int .i64 q] rfl rfl (one_new _ _ _ _ rfl) (one_int _ _) (by unfold maxLen; omega) (by omega) (by simp; omega) ?_; intro v' w4 hown4 hgr4 _)
      have HE1 : Hid (w4.ownsRow w.heap.size 3 1 v' (l ++ [q]).length (cellsI (l ++ [q]))) := Lib.hid (by
        rw [List.length_append, List.length_singleton]
        have : cellsI (l ++ [q]) = cellsI l ++ [.int .i64 q] := by simp [cellsI]
        rw [this]; exact hown4)
      have HE2 : Hid (SI w tb w4) := Lib.hid ((HI2.out.alloc _).grown hgr4 fun r hr => ownBlock_le hown2 r hr)
      clear hown4 hgr4 hown2
      go_roundw
      case rel => exact ⟨l ++ [q], k - 1, by first | rfl | go_num, by omega, by simp; omega, HQ2, HE1.out, HE2⟩
      case measure => simp [RowKit.intOf]; omega
    · obtain rfl : k = 0 := by omega
      have HO := Lib.hid hown
      clear hown
      go_wp2
      go_ret
      exact ⟨_, l, rfl, by omega, by omega, HQ.out, HO.out, HSI.out, HSI.out.old⟩

end Go.Proofs.Ytblidmkkbcobgaa
