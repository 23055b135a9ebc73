/- The source's Claims: right claims, all open, for every tape. -/
import Derived.Test.YtknmgkjfopoinaaGreatDoorMG4
import Derived.Test.YtknmgkjfopoinaaGreatDoorMG5
import Derived.Test.YtknmgkjfopoinaaGreatDoorMOwnO
set_option linter.unusedSimpArgs false
set_option linter.unusedVariables false
set_option linter.unusedSimpArgs false
set_option linter.unusedVariables false
namespace Go.Proofs.YtknmgkjfopoinaaGreatDoor
open Go.RowKit Go.Lib Go.Proofs

theorem Tryz.infoClm : (Tryz.prog.info? 39).map (fun i => (i.zero, i.size, i.bytes)) = some (some (.agg #[.int .i64 0, .int .i64 0, .int .i64 0, .int .i64 0, .int .i64 0, .string ⟨#[]⟩]), 6, 56) := by kernel_rfl
/-- A claim as the source makes it. -/
def ClmS (c : Clm) : Prop := ClmG c ∧ c.opn = c.amt ∧ c.amt ≤ 250 ∧ c.day < 60

set_option maxRecDepth 100000 in
set_option maxHeartbeats 4000000 in
theorem sClaims_any (tb : Nat) (most : Int) (w : World) (hs : SrcAt w tb) (hm : 0 ≤ most ∧ most ≤ 60) :
    Calls Tryz.prog 24 #[.pointer (some ⟨tb, 0, none⟩), .int .i64 most] w fun e w' => ∃ l v, e = .returned v ∧ (∀ c ∈ l, ClmS c) ∧ (l.length : Int) ≤ most ∧ w'.ownsRow w.heap.size 39 6 v l.length (cellsL clmC l) ∧ SI w tb w' := by
  obtain ⟨i0, hi0, hz0, hz1, hz2⟩ := info_parts Tryz.infoClm
  have HI0 := Lib.hid (si_start hs)
  have hlt := hs.lt
  have hmw : IntKind.i64.wrap (most + 1) = most + 1 := IntWalk.i64_in _ (by omega)
  clear hs
  go_enter Tryz.func24, Tryz.ntmps24
  go_wp2_with fail
  refine (n_in HI0.out (most + 1) (by omega) (by omega)).mono ?_
  rintro e w1 ⟨k0, rfl, k00, k01, hi1, -⟩
  have HI1 := Lib.hid hi1
  clear hi1 HI0
  go_wp2
  go_loopw [5, 6] (fun vv kv wr => ∃ (l : List Clm) (k : Int), kv = .int .i64 k ∧ 0 ≤ k ∧ (l.length : Int) + k ≤ most ∧ Hid (∀ c ∈ l, ClmS c) ∧ Hid (wr.ownsRow w.heap.size 39 6 vv l.length (cellsL clmC l)) ∧ Hid (SI w tb wr)) (fun _ kv _ => (RowKit.intOf kv).toNat)
  case atStart => exact ⟨[], k0, rfl, k00, by simp; omega, Lib.hid (by simp), Lib.hid (World.ownsRow_nil _ _ _ _), HI1⟩
  case round =>
    clear HI1
    obtain ⟨l, k, rfl, hk0, hlk, HOK, HOW, HI⟩ := hrel
    by_cases hk : 0 < k
    · obtain ⟨av, cv, rfl, -, -⟩ := owns_gen HOW.out
      go_wp2_with fail
      with_reducible refine Calls.mono (pick_in _ [5, 10, 10, 100, 250] _ _ rfl HI.out (by simp) (by simp) _ rfl _ (by simp)) ?_
      rintro e w2 ⟨n, rfl, hn, hi2, hg2⟩
      have hn2 : 1 ≤ n ∧ n ≤ 250 := (by decide : ∀ x ∈ ([5, 10, 10, 100, 250] : List Int), 1 ≤ x ∧ x ≤ 250) n hn
      have HI2 := Lib.hid hi2
      have ho2 := ownsRow_below HOW.out (below_alloc wr (.cells ⟨cellsI [5, 10, 10, 100, 250]⟩ 3))
      have HO2 := Lib.hid (ho2.kept hg2 (ownBlock_ne ho2 tb hlt))
      clear hn hi2 hg2 ho2 HOW HI
      obtain ⟨m, hm'⟩ : ∃ m, m = l.length := ⟨_, rfl⟩
      have HM := Lib.hid hm'
      rw [← hm'] at HO2 hlk ⊢
      have hw3 : IntKind.i64.wrap ((m : Int) * 3) = (m : Int) * 3 := IntWalk.i64_in _ (by omega)
      have hw4 : IntKind.i64.wrap ((m : Int) * 3 + 1) = (m : Int) * 3 + 1 := IntWalk.i64_in _ (by omega)
      have hwk : IntKind.i64.wrap (k - 1) = k - 1 := IntWalk.i64_in _ (by omega)
      clear hm'
      go_wp2_with fail
      refine (range_in HI2.out 1 3 (by omega) (by omega) (by omega)).mono ?_
      rintro e w3 ⟨pr, rfl, hp0, hp1, hi3, hg3⟩
      have HI3 := Lib.hid hi3
      have HO3 := Lib.hid (HO2.out.kept hg3 (ownBlock_ne HO2.out tb hlt))
      clear hi3 hg3 HO2 HI2
      go_wp2_with fail
      refine (n_in HI3.out 60 (by omega) (by omega)).mono ?_
      rintro e w4 ⟨dy, rfl, hd0, hd1, hi4, hg4⟩
      have HI4 := Lib.hid hi4
      have HO4 := Lib.hid (HO3.out.kept hg4 (ownBlock_ne HO3.out tb hlt))
      clear hi4 hg4 HO3 HI3
      go_wp2_with fail
      refine (sCode_in HI4.out).mono ?_
      rintro e w5 ⟨cd, rfl, hcd, hi5, hg5⟩
      have HI5 := Lib.hid hi5
      have HO5 := Lib.hid (HO4.out.kept hg5 (ownBlock_ne HO4.out tb hlt))
      clear hi5 hg5 HO4 HI4
      obtain ⟨x, hx⟩ : ∃ x : Clm, x = ⟨(m : Int) * 3 + 1, pr, n, n, dy, cd⟩ := ⟨_, rfl⟩
      have HXS : Hid (ClmS x) := Lib.hid (by rw [hx]; exact ⟨⟨by simp only; omega, by simp only; omega, by simp only; omega, by simp only; omega, by simp only; omega, hcd⟩, rfl, hn2.2, hd1⟩)
      have hxc : clmC x = [.int .i64 ((m : Int) * 3 + 1), .int .i64 pr, .int .i64 n, .int .i64 n, .int .i64 dy, .string cd] := by rw [hx]; rfl
      obtain ⟨w6, hw6⟩ : ∃ W, W = w5.alloc (.cells #[.int .i64 ((m : Int) * 3 + 1), .int .i64 pr, .int .i64 n, .int .i64 n, .int .i64 dy, .string cd] 39) := ⟨_, rfl⟩
      have HI6 : Hid (SI w tb w6) := Lib.hid (by rw [hw6]; exact HI5.out.alloc _)
      have HO6 : Hid (w6.ownsRow w.heap.size 39 6 (.slice av m cv) m (cellsL clmC l)) := Lib.hid (by rw [hw6]; exact ownsRow_below HO5.out (below_alloc _ _))
      have HNW : Hid (1 = 0 ∨ ∃ ad : Addr, (some ⟨w5.heap.size, 0, none⟩ : Option Addr) = some ad ∧ ∀ j u, (clmC x)[j]? = some u → w6.cell? (ad.add j) = some u) := Lib.hid (Or.inr ⟨_, rfl, fun j u hu => by
        have hadd : (⟨w5.heap.size, 0, none⟩ : Addr).add j = ⟨w5.heap.size, j, none⟩ := by unfold Addr.add; split <;> simp_all
        rw [hadd, hw6, obj_cell (heap_alloc_new w5 _) j, ← hu, hxc]
        simp⟩)
      have HON : Hid (∀ u ∈ clmC x, u.oneCell' = true) := Lib.hid (by rw [hxc]; intro u hu; simp only [List.mem_cons, List.mem_nil_iff, or_false] at hu; rcases hu with rfl | rfl | rfl | rfl | rfl | rfl <;> rfl)
      have HLN : Hid ((clmC x).length = 1 * 6) := Lib.hid (by rw [hxc]; rfl)
      have HSN : Hid (cellsL clmC (l ++ [x]) = cellsL clmC l ++ clmC x) := Lib.hid (cellsL_snoc _ _ _).symm
      have HBS : Hid (w.heap.size ≤ w6.heap.size) := Lib.hid HI6.out.old.size
      have HW6 := Lib.hid hw6
      clear hx hxc hw6 hcd HO5 HI5
      go_wp2_with (at_builtin; rw [← HW6.out]; refine wpList_ownO w6 rfl _ _ 29 rfl w.heap.size 39 i0 (.agg #[.int .i64 0, .int .i64 0, .int .i64 0, .int .i64 0, .int .i64 0, .string ⟨#[]⟩]) 6 56 Tryz.underlying29 hi0 hz0 hz1 hz2 rfl (by decide) (.slice av m cv) m (cellsL clmC l) rfl HO6.out (some ⟨w5.heap.size, 0, none⟩) 1 1 (clmC x) rfl HLN.out HNW.out HON.out (by unfold maxLen; omega) (by omega) HBS.out ?_; intro v7 w7 hown7 hgr7)
      have HO7 : Hid (w7.ownsRow w.heap.size 39 6 v7 (l ++ [x]).length (cellsL clmC (l ++ [x]))) := Lib.hid (by rw [HSN.out, List.length_append, List.length_singleton, ← HM.out]; exact hown7)
      have HI7 : Hid (SI w tb w7) := Lib.hid (HI6.out.grown hgr7 fun r e => ownBlock_le HO6.out r e)
      have HOK7 : Hid (∀ c ∈ l ++ [x], ClmS c) := Lib.hid fun c hc => by
        rcases List.mem_append.1 hc with h | h
        · exact HOK.out c h
        · rw [List.mem_singleton] at h; rw [h]; exact HXS.out
      have hl7 : ((l ++ [x]).length : Int) + (k - 1) ≤ most := by rw [List.length_append, List.length_singleton, ← HM.out]; omega
      exact ⟨⟨l ++ [x], k - 1, rfl, by omega, hl7, HOK7, HO7, HI7⟩, by simp [RowKit.intOf]; omega⟩
    · go_wp2
      go_ret
      exact ⟨l, _, rfl, HOK.out, by omega, HOW.out, HI.out⟩

end Go.Proofs.YtknmgkjfopoinaaGreatDoor
