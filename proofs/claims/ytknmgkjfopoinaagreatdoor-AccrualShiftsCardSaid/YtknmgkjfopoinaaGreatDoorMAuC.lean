/- slices.Grow of nothing, slices.Concat of two lists of postings. -/
import Derived.Test.YtknmgkjfopoinaaGreatDoorMDfP
import Derived.Test.YtknmgkjfopoinaaGreatDoorMOwnO
set_option linter.unusedSimpArgs false
set_option linter.unusedVariables false
set_option linter.unusedSimpArgs false
set_option linter.unusedVariables false
namespace Go.Proofs.YtknmgkjfopoinaaGreatDoor
open Go.RowKit Go.Lib Go.Proofs

theorem new_rowP (w : World) (c : Nat) (hc : c ≤ maxLen) (xs : Array Value) (hx : xs.size = c * 8) (e : TypeId) : (w.drew.alloc (.cells xs e)).ownsRow w.heap.size e 8 (.slice (some ⟨w.heap.size, 0, none⟩) 0 c) 0 [] :=
  ⟨rfl, Or.inr ⟨w.heap.size, c, xs, rfl, Nat.le_refl _, heap_alloc_new w.drew _, Nat.zero_le _, hc, hx, by simp⟩⟩

set_option maxRecDepth 100000 in
set_option maxHeartbeats 4000000 in
theorem GrowPst_nil (n : Nat) (hn : n ≤ 1000) (w : World) : Calls Tryz.prog 50 #[.slice none 0 0, .int .i64 n] w fun e w' => ∃ v, e = .returned v ∧ w'.ownsRow w.heap.size 57 8 v 0 [] ∧ Below w.heap.size w w' := by
  obtain ⟨i0, hi0, hz0, hz1, hz2⟩ := info_parts Tryz.infoDfP
  by_cases h0 : n = 0
  · subst h0
    go_enter Tryz.func50, Tryz.ntmps50
    go_wp2
    go_ret
    exact ⟨_, rfl, World.ownsRow_nil _ _ _ _, Below.refl _ _⟩
  · have hp : (0 : Int) < (n : Int) := by omega
    have hp0 : ¬ (n : Int) < 0 := by omega
    have hw : IntKind.i64.wrap (n : Int) = (n : Int) := by rw [IntKind.wrap_i64]; omega
    have hcap := Lib.hid (grownCap_ge w n 0 57)
    have hmax := Lib.hid (grownCap_le_maxLen w n 0 57 (by unfold maxLen; omega))
    have hrun := fun ty => run_append_nil_zeros (P := Tryz.prog) w 25 3 ty 57 i0 _ .i64 .i64 Tryz.underlying25 Tryz.underlying3 hi0 hz0 n (by omega) (by omega) (by omega) (by rw [hz2]; omega)
    obtain ⟨c, hc⟩ : ∃ c, c = grownCap w n 0 57 := ⟨_, rfl⟩
    rw [← hc] at hcap hmax hrun
    have HRUN := Lib.hid hrun
    have HROW := Lib.hid (new_rowP w c hmax.out (Builtin.zeroCells (Value.agg #[.int .i64 0, .int .i64 0, .int .i64 0, .int .i64 0, .int .i64 0, .int .i64 0, .int .i64 0, .int .i64 0]).cells n ++ Builtin.zeroCells (Value.agg #[.int .i64 0, .int .i64 0, .int .i64 0, .int .i64 0, .int .i64 0, .int .i64 0, .int .i64 0, .int .i64 0]).cells (c - n)) (by rw [Array.size_append, size_zeroCells, size_zeroCells]; have := hcap.out; show n * 8 + (c - n) * 8 = c * 8; omega) 57)
    have HB := Lib.hid (((Below.refl w.heap.size w).drew).alloc (show w.heap.size ≤ w.drew.heap.size from Nat.le_refl _) (.cells (Builtin.zeroCells (Value.agg #[.int .i64 0, .int .i64 0, .int .i64 0, .int .i64 0, .int .i64 0, .int .i64 0, .int .i64 0, .int .i64 0]).cells n ++ Builtin.zeroCells (Value.agg #[.int .i64 0, .int .i64 0, .int .i64 0, .int .i64 0, .int .i64 0, .int .i64 0, .int .i64 0, .int .i64 0]).cells (c - n)) 57))
    generalize w.drew.alloc (.cells (Builtin.zeroCells (Value.agg #[.int .i64 0, .int .i64 0, .int .i64 0, .int .i64 0, .int .i64 0, .int .i64 0, .int .i64 0, .int .i64 0]).cells n ++ Builtin.zeroCells (Value.agg #[.int .i64 0, .int .i64 0, .int .i64 0, .int .i64 0, .int .i64 0, .int .i64 0, .int .i64 0, .int .i64 0]).cells (c - n)) 57) = w1 at *
    have hcn : n ≤ c := hcap.out
    have hci : (0 : Int) ≤ (c : Int) := by omega
    clear hrun hc hcap hmax
    go_enter Tryz.func50, Tryz.ntmps50
    go_wp2_with (at_builtin; refine Lib.wpList_append_run _ rfl _ _ _ _ rfl _ _ rfl rfl _ _ (HRUN.out _) ?_)
    go_ret
    exact ⟨_, rfl, HROW.out, HB.out⟩

set_option maxRecDepth 100000 in
set_option maxHeartbeats 8000000 in
theorem ConcatPst_any (A B : List Pst) (hlA : A.length ≤ 450) (hlB : B.length ≤ 450) (va vb : Value) (g cap : Nat) (w : World) (h0 : w.cell? ⟨g, 0, none⟩ = some va) (h1 : w.cell? ⟨g, 1, none⟩ = some vb) (hA : ListAt pstC 8 w va A) (hB : ListAt pstC 8 w vb B) :
    Calls Tryz.prog 26 #[.slice (some ⟨g, 0, none⟩) 2 cap] w fun e w' => ∃ v, e = .returned v ∧ w'.ownsRow w.heap.size 57 8 v (A.length + B.length) (cellsL pstC (A ++ B)) ∧ Below w.heap.size w w' := by
  obtain ⟨i0, hi0, hz0, hz1, hz2⟩ := info_parts Tryz.infoDfP
  have hgl : g < w.heap.size := by
    rcases Nat.lt_or_ge g w.heap.size with h | h
    · exact h
    · simp [World.cell?, Array.getElem?_eq_none h] at h0
  obtain ⟨ao, ca, rfl, hna⟩ := hA.news pstF
  obtain ⟨bo, cb, rfl, hnb⟩ := hB.news pstF
  have HNA := Lib.hid (fun W (hW : Below w.heap.size w W) => newsOf pstF (hA.below hW))
  have HNB := Lib.hid (fun W (hW : Below w.heap.size w W) => newsOf pstF (hB.below hW))
  have HLA := Lib.hid (cellsL_len pstF A)
  have HLB := Lib.hid (cellsL_len pstF B)
  obtain ⟨m, hm⟩ : ∃ m, m = A.length := ⟨_, rfl⟩
  obtain ⟨n, hn⟩ : ∃ n, n = B.length := ⟨_, rfl⟩
  have HM := Lib.hid hm
  have HN := Lib.hid hn
  rw [← hm] at hlA HNA HLA h0 ⊢
  rw [← hn] at hlB HNB HLB h1 ⊢
  have HG := Lib.hid (fun W => GrowPst_nil (m + n) (by omega) W)
  rw [Int.natCast_add] at HG
  have HC : Hid (∀ W, Below w.heap.size w W → W.cell? ⟨g, 0, none⟩ = some (.slice ao m ca) ∧ W.cell? ⟨g, 1, none⟩ = some (.slice bo n cb)) := Lib.hid fun W hW => ⟨(hW.cell (p := ⟨g, 0, none⟩) hgl).trans h0, (hW.cell (p := ⟨g, 1, none⟩) hgl).trans h1⟩
  clear hA hB hna hnb hm hn
  go_enter Tryz.func26, Tryz.ntmps26
  go_wp2
  go_loopw [3, 11] (fun sv iv wr => ∃ (k sz : Nat), iv = .int .i64 (k : Int) ∧ sv = .int .i64 (sz : Int) ∧ k ≤ 2 ∧ Hid ((k = 0 → sz = 0) ∧ (k = 1 → sz = m) ∧ (k = 2 → sz = m + n)) ∧ w = wr) (fun _ iv _ => 2 - (RowKit.intOf iv).toNat)
  case atStart => exact ⟨0, 0, rfl, rfl, by omega, Lib.hid ⟨fun _ => rfl, by omega, by omega⟩, rfl⟩
  case round =>
    obtain ⟨k, sz, rfl, rfl, hk, HS, rfl⟩ := hrel
    have hs := HS.out
    rcases (show k = 0 ∨ k = 1 ∨ k = 2 by omega) with rfl | rfl | rfl
    · obtain rfl : sz = 0 := hs.1 rfl
      clear hs
      go_wp2
      go_roundw
      case rel => exact ⟨1, m, rfl, by first | rfl | go_num, by omega, Lib.hid ⟨by omega, fun _ => rfl, by omega⟩, by first | trivial | rfl⟩
      case measure => simp [RowKit.intOf]
    · obtain rfl : sz = m := hs.2.1 rfl
      clear hs
      go_wp2
      go_roundw
      case rel => exact ⟨2, sz + n, rfl, by first | rfl | go_num, by omega, Lib.hid ⟨by omega, by omega, fun _ => rfl⟩, by first | trivial | rfl⟩
      case measure => simp [RowKit.intOf]
    · obtain rfl : sz = m + n := hs.2.2 rfl
      clear hs h0 h1
      go_wp2_with fail
      with_reducible refine Calls.mono (HG.out _) ?_
      rintro e w1 ⟨v1, rfl, ho1, b1⟩
      have HO1 := Lib.hid ho1
      have HB1 := Lib.hid b1
      clear ho1 b1
      go_wp2
      go_loopw [6, 27] (fun nv iv wr => ∃ (k q : Nat) (L : List Pst), iv = .int .i64 (k : Int) ∧ k ≤ 2 ∧ Hid ((k = 0 → L = [] ∧ q = 0) ∧ (k = 1 → L = A ∧ q = m) ∧ (k = 2 → L = A ++ B ∧ q = m + n)) ∧ Hid (wr.ownsRow w.heap.size 57 8 nv q (cellsL pstC L)) ∧ Hid (Below w.heap.size w wr)) (fun _ iv _ => 2 - (RowKit.intOf iv).toNat)
      case atStart => exact ⟨0, 0, [], rfl, by omega, Lib.hid ⟨fun _ => ⟨rfl, rfl⟩, by omega, by omega⟩, HO1, HB1⟩
      case round =>
        clear HO1 HB1
        obtain ⟨k, q, L, rfl, hk, HL, HO, HB⟩ := hrel
        have hl := HL.out
        have hcc := HC.out _ HB.out
        obtain ⟨q0, q1⟩ := hcc
        rcases (show k = 0 ∨ k = 1 ∨ k = 2 by omega) with rfl | rfl | rfl
        · obtain ⟨rfl, rfl⟩ := hl.1 rfl
          clear hl
          go_wp2_with (at_builtin; go_loud (refine wpList_ownO _ (by rfl) _ _ 25 (by rfl) w.heap.size 57 i0 (.agg #[.int .i64 0, .int .i64 0, .int .i64 0, .int .i64 0, .int .i64 0, .int .i64 0, .int .i64 0, .int .i64 0]) 8 64 Tryz.underlying25 hi0 hz0 hz1 hz2 (by rfl) (by decide) _ _ _ (by rfl) HO.out _ _ _ (cellsL pstC A) (by rfl) HLA.out (HNA.out _ HB.out) (cellsL_one pstF _) (by unfold maxLen; omega) (by omega) HB.out.size ?_); intro v8 w8 hown8 hgr8; (have hb8 : Below w.heap.size w w8 := HB.out.trans ⟨hgr8.os, hgr8.tape, hgr8.output, hgr8.size, fun k hk => hgr8.block k (Nat.lt_of_lt_of_le hk HB.out.size) (fun e => absurd (ownBlock_le HO.out k e.symm) (by omega))⟩); (have HO8 := Lib.hid hown8); (have HB8 := Lib.hid hb8); clear hown8 hgr8 hb8)
          go_roundw
          case rel => exact ⟨1, m, A, by first | rfl | go_num, by omega, Lib.hid ⟨by omega, fun _ => ⟨rfl, rfl⟩, by omega⟩, Lib.hid (by have := HO8.out; simpa [cellsL] using this), HB8⟩
          case measure => simp [RowKit.intOf]
        · obtain ⟨rfl, rfl⟩ := hl.2.1 rfl
          clear hl
          go_wp2_with (at_builtin; go_loud (refine wpList_ownO _ (by rfl) _ _ 25 (by rfl) w.heap.size 57 i0 (.agg #[.int .i64 0, .int .i64 0, .int .i64 0, .int .i64 0, .int .i64 0, .int .i64 0, .int .i64 0, .int .i64 0]) 8 64 Tryz.underlying25 hi0 hz0 hz1 hz2 (by rfl) (by decide) _ _ _ (by rfl) HO.out _ _ _ (cellsL pstC B) (by rfl) HLB.out (HNB.out _ HB.out) (cellsL_one pstF _) (by unfold maxLen; omega) (by omega) HB.out.size ?_); intro v8 w8 hown8 hgr8; (have hb8 : Below w.heap.size w w8 := HB.out.trans ⟨hgr8.os, hgr8.tape, hgr8.output, hgr8.size, fun k hk => hgr8.block k (Nat.lt_of_lt_of_le hk HB.out.size) (fun e => absurd (ownBlock_le HO.out k e.symm) (by omega))⟩); (have HO8 := Lib.hid hown8); (have HB8 := Lib.hid hb8); clear hown8 hgr8 hb8)
          go_roundw
          case rel => exact ⟨2, q + n, L ++ B, by first | rfl | go_num, by omega, Lib.hid ⟨by omega, by omega, fun _ => ⟨rfl, rfl⟩⟩, Lib.hid (by have := HO8.out; rw [cellsL_app]; exact this), HB8⟩
          case measure => simp [RowKit.intOf]
        · obtain ⟨rfl, rfl⟩ := hl.2.2 rfl
          clear hl
          go_wp2
          go_ret
          exact ⟨_, rfl, HO.out, HB.out⟩


end Go.Proofs.YtknmgkjfopoinaaGreatDoor
