/- agreed of layer 43: a right ledger in which every mutual posting is made by both sides, for every tape. -/
import Derived.Test.YtdbpbmejgdbppaaCsG
import Derived.Test.YtdbpbmejgdbppaaLgH
set_option linter.unusedSimpArgs false
set_option linter.unusedVariables false
namespace Go.Proofs.Ytdbpbmejgdbppaa
open Go.RowKit Go.Lib Go.Proofs

theorem agr_post {w0 : World} {tb bL nV cV : Nat} {aV : Option Addr} {l : List Pst} {p : Pst} {W : World} (m : Nat) (h : LgI w0 tb bL (.slice aV nV cV) l W) (hok : LdgOk l) (hlen : l.length < 400) (hp : PstOk p) (hnum : p.num = (l.length : Int) + 1) (hday : (lastP l).day ≤ p.day) (hm : m = l.length + 1) :
    Calls Try.prog 18 #[.agg #[.slice aV nV cV], .agg (pstC p).toArray] W fun e w' => ∃ aX cX, e = .returned (.tuple #[.agg #[.slice aX m cX], .int .i64 0]) ∧ LgI w0 tb bL (.slice aX m cX) (l ++ [p]) (w'.setCell ⟨bL, 0, none⟩ (.slice aX m cX)) ∧ w'.heap[bL]? = some (.cells #[.slice aV nV cV] 27 (0, 0)) ∧ Below W.heap.size W w' := by
  refine (rgPost_right hok hlen hp hnum hday (.slice aV nV cV) W h.rows).mono ?_
  rintro e w' ⟨u, h5, h6, h7⟩
  obtain ⟨aX, cX, rfl, -, -⟩ := owns_gen h6
  rw [← hm] at h5 h6
  have h8 : PstsAt w' (.slice aX m cX) (l ++ [p]) := ListAt.owns (base := W.heap.size) (e := 41) (by rw [List.length_append, List.length_singleton, ← hm]; exact h6)
  have h9 := h.below h7
  have hset := obj_set h9.box 0 (.slice aX m cX)
  simp only [List.setIfInBounds_toArray, List.set_cons_zero] at hset
  exact ⟨aX, cX, h5, ⟨h9.si.set h9.out _ _, hset, PstsAt.keep h8 (lone_ldg h9.box) (setCell_grown _ _), h9.ne, h9.out⟩, h9.box, h7⟩

set_option maxRecDepth 100000 in
set_option maxHeartbeats 16000000 in
theorem agreed43_any (tb : Nat) (most : Int) (w : World) (hs : SrcAt w tb) (hm : 0 ≤ most ∧ most ≤ 100) :
    Calls Try.prog 16 #[.pointer (some ⟨tb, 0, none⟩), .int .i64 most] w fun e w' => ∃ l v, e = .returned (.agg #[v]) ∧ AgrL l ∧ LdgOk l ∧ (lastP l).day ≤ 2 * most ∧ (l.length : Int) ≤ 3 * most ∧ PstsAt w' v l ∧ SI w tb w' := by
  have hlt := hs.lt
  have hs1 := (si_start hs).alloc (.cells #[.slice none 0 0] 27)
  have HS0 := Lib.hid hs1
  obtain ⟨w0, hw0⟩ : ∃ w0, w0 = w.alloc (.cells #[.slice none 0 0] 27) := ⟨_, rfl⟩
  have HR0 : Hid (w0.heap[w.heap.size]? = some (.cells #[.slice none 0 0] 27 (0, 0))) := Lib.hid (by rw [hw0]; exact heap_alloc_new w _)
  have HSZ : Hid (w0.heap.size = w.heap.size + 1) := Lib.hid (by rw [hw0]; simp)
  rw [← hw0] at HS0
  have HEND : Hid (∀ W, SI w0 tb W → SI w tb W) := Lib.hid fun W hW => ⟨hW.src, grown_step HS0.out.old hW.old, hlt⟩
  obtain ⟨bL, hbL⟩ : ∃ bL, bL = w.heap.size + 1 := ⟨_, rfl⟩
  obtain ⟨w1, hw1⟩ : ∃ w1, w1 = w0.alloc (.cells #[.slice none 0 0] 27) := ⟨_, rfl⟩
  have HI1 : Hid (LgI w0 tb bL (.slice none 0 0) [] w1) := Lib.hid (by
    refine ⟨?_, ?_, ?_, by omega, by rw [HSZ.out, hbL]; exact Nat.le_refl _⟩
    · rw [hw1]; exact (si_start HS0.out.src).alloc _
    · rw [hw1, hbL, ← HSZ.out]; exact heap_alloc_new w0 _
    · exact ListAt.owns (base := 0) (e := 41) (World.ownsRow_nil _ _ _ _))
  have hrne : w.heap.size ≠ tb := by omega
  have HBL := Lib.hid hbL
  have hwE : (w.alloc (.cells #[.slice none 0 0] 27)).alloc (.cells #[.slice none 0 0] 27) = w1 := by rw [hw1, hw0]
  have hmw : IntKind.i64.wrap (most + 1) = most + 1 := IntWalk.i64_in _ (by omega)
  clear hs hs1 hw0 hw1 hbL
  go_enter Try.func16, Try.ntmps16
  go_wp2_with fail
  refine (n_in HI1.out.si (most + 1) (by omega) (by omega)).mono ?_
  rintro e w2 ⟨k0, rfl, k00, k01, hi2, hg2⟩
  have HI2 := Lib.hid (HI1.out.turn hi2.src hg2)
  have hk01 : k0 ≤ most := by omega
  rw [show w.heap.size + 1 = bL from HBL.out.symm]
  clear hi2 hg2 HI1 hwE
  go_wp2
  go_loopw [6, 7] (fun dv kv wr => ∃ (l : List Pst) (k d0 : Int) (aV : Option Addr) (nV cV : Nat), dv = .int .i64 d0 ∧ kv = .int .i64 k ∧ 0 ≤ k ∧ k ≤ most ∧ 0 ≤ d0 ∧ d0 ≤ 2 * (most - k) ∧ (nV : Int) ≤ 3 * (most - k) ∧ Hid (nV = l.length) ∧ Hid ((lastP l).day ≤ d0) ∧ Hid (AgrL l) ∧ Hid (LdgOk l) ∧ Hid (LgI w0 tb bL (.slice aV nV cV) l wr)) (fun _ kv _ => (RowKit.intOf kv).toNat)
  case atStart => exact ⟨[], k0, 0, none, 0, 0, rfl, rfl, k00, hk01, by omega, by omega, by omega, Lib.hid rfl, Lib.hid (by decide), Lib.hid AgrL.nil, Lib.hid ldgOk_nil, HI2⟩
  case round =>
    clear HI2
    obtain ⟨l, k, d0, aV, nV, cV, rfl, rfl, hk0, hkm, hd0, hd1, hnv, HNV, HLD, HAG, HOK, HI⟩ := hrel
    by_cases hk : 0 < k
    · go_wp2_with fail
      refine (range_in HI.out.si 1 3 (by omega) (by omega) (by omega)).mono ?_
      rintro e w6 ⟨a, rfl, ha0, ha1, hi6, hg6⟩
      have HD6 := Lib.hid (HI.out.turn hi6.src hg6)
      clear hi6 hg6 HI
      go_wp2_with fail
      with_reducible refine Calls.mono (pick_in _ [5, 40, 100] _ _ rfl HD6.out.si (by simp) (by simp) _ rfl _ (by simp)) ?_
      rintro e w7 ⟨n, rfl, hn, hi7, hg7⟩
      have HD7 := Lib.hid ((HD6.out.below (below_alloc _ _)).turn hi7.src hg7)
      clear hi7 hg7 HD6
      go_wp2_with fail
      refine (range_in HD7.out.si 1 3 (by omega) (by omega) (by omega)).mono ?_
      rintro e w8 ⟨ref, rfl, hr0, hr1, hi8, hg8⟩
      have HD8 := Lib.hid (HD7.out.turn hi8.src hg8)
      clear hi8 hg8 HD7
      have hn2 : 1 ≤ n ∧ n ≤ 1000000000000 := (by decide : ∀ x ∈ ([5, 40, 100] : List Int), 1 ≤ x ∧ x ≤ 1000000000000) n hn
      clear hn
      obtain ⟨pm, hpm⟩ : ∃ pm, a.tmod 3 = pm := ⟨_, rfl⟩
      have hpm0 : 0 ≤ pm := by rw [← hpm]; exact Int.tmod_nonneg _ (by omega)
      have hpm1 : pm < 3 := by rw [← hpm]; exact Int.tmod_lt_of_pos _ (by omega)
      have hpne : pm + 1 ≠ a := by
        intro hq
        by_cases hre : a = 3
        · rw [hre, Int.tmod_self] at hpm
          omega
        · have : a.tmod 3 = a := Int.tmod_eq_of_lt (by omega) (by omega)
          omega
      obtain ⟨b, hb⟩ : ∃ b, b = pm + 1 := ⟨_, rfl⟩
      obtain ⟨N1, hN1⟩ : ∃ q : Int, q = (nV : Int) + 1 := ⟨_, rfl⟩
      obtain ⟨N2, hN2⟩ : ∃ q : Int, q = N1 + 1 := ⟨_, rfl⟩
      obtain ⟨N3, hN3⟩ : ∃ q : Int, q = N2 + 1 := ⟨_, rfl⟩
      obtain ⟨n1, hn1⟩ : ∃ q : Nat, q = nV + 1 := ⟨_, rfl⟩
      obtain ⟨n2, hn2'⟩ : ∃ q : Nat, q = n1 + 1 := ⟨_, rfl⟩
      obtain ⟨n3, hn3⟩ : ∃ q : Nat, q = n2 + 1 := ⟨_, rfl⟩
      have hw1 : IntKind.i64.wrap pm = pm := IntWalk.i64_in _ (by omega)
      have hw2 : IntKind.i64.wrap (pm + 1) = b := by rw [hb]; exact IntWalk.i64_in _ (by omega)
      have hwn1 : IntKind.i64.wrap ((nV : Int) + 1) = N1 := by rw [hN1]; exact IntWalk.i64_in _ (by omega)
      have hwn2 : IntKind.i64.wrap (N1 + 1) = N2 := by rw [hN2]; exact IntWalk.i64_in _ (by omega)
      have hwn3 : IntKind.i64.wrap ((n2 : Int) + 1) = N3 := by rw [show (n2 : Int) + 1 = N3 by omega]; exact IntWalk.i64_in _ (by omega)
      have hwk : IntKind.i64.wrap (k - 1) = k - 1 := IntWalk.i64_in _ (by omega)
      have hb13 : 1 ≤ b ∧ b ≤ 3 := by omega
      have hab : a ≠ b := by omega
      have POK1 : Hid (PstOk (⟨N1, d0, a, 140, 440, n, b, ref⟩ : Pst)) := Lib.hid ⟨by simp only; omega, by simp only; omega, by simp only; omega, by simp, by simp, by simp, hn2, by simp only; omega, by simp only; omega, by simp only; omega⟩
      have POK2 : Hid (PstOk (⟨N2, d0, b, 540, 240, n, a, ref⟩ : Pst)) := Lib.hid ⟨by simp only; omega, by simp only; omega, by simp only; omega, by simp, by simp, by simp, hn2, by simp only; omega, by simp only; omega, by simp only; omega⟩
      have HN1 := Lib.hid hN1
      have HN2 := Lib.hid hN2
      have HN3 := Lib.hid hN3
      have Hn1 := Lib.hid hn1
      have Hn2 := Lib.hid hn2'
      have Hn3 := Lib.hid hn3
      have hnv4 : nV + 3 < 400 := by omega
      have HB := Lib.hid hb
      have HOK1 : Hid (LdgOk (l ++ [(⟨N1, d0, a, 140, 440, n, b, ref⟩ : Pst)])) := Lib.hid (HOK.out.snoc (by rw [← HNV.out]; omega) POK1.out (by rw [← HNV.out]; exact hN1) HLD.out)
      have HOK2 : Hid (LdgOk (l ++ [(⟨N1, d0, a, 140, 440, n, b, ref⟩ : Pst)] ++ [(⟨N2, d0, b, 540, 240, n, a, ref⟩ : Pst)])) := Lib.hid (HOK1.out.snoc (by rw [List.length_append, List.length_singleton, ← HNV.out]; omega) POK2.out (by rw [List.length_append, List.length_singleton, ← HNV.out]; show N2 = _; omega) (by rw [lastP_snoc]; exact Int.le_refl _))
      have HAG2 : Hid (AgrL (l ++ [(⟨N1, d0, a, 140, 440, n, b, ref⟩ : Pst)] ++ [(⟨N2, d0, b, 540, 240, n, a, ref⟩ : Pst)])) := Lib.hid (by rw [hN2]; exact AgrL.pair HAG.out N1 d0 a b n ref ⟨ha0, ha1⟩ hb13 hab (by omega))
      have HLE2 : Hid ((l ++ [(⟨N1, d0, a, 140, 440, n, b, ref⟩ : Pst)] ++ [(⟨N2, d0, b, 540, 240, n, a, ref⟩ : Pst)]).length = n2) := Lib.hid (by simp only [List.length_append, List.length_singleton, ← HNV.out]; omega)
      obtain ⟨bX, hbX⟩ : ∃ q, q = w8.heap.size := ⟨_, rfl⟩
      obtain ⟨w9, hw9⟩ : ∃ W, W = w8.alloc (.cells #[.int .i64 N1, .int .i64 d0, .int .i64 a, .int .i64 140, .int .i64 440, .int .i64 n, .int .i64 b, .int .i64 ref] 41) := ⟨_, rfl⟩
      obtain ⟨bY, hbY⟩ : ∃ q, q = w9.heap.size := ⟨_, rfl⟩
      obtain ⟨w10, hw10⟩ : ∃ W, W = w9.alloc (.cells #[.int .i64 N2, .int .i64 d0, .int .i64 b, .int .i64 540, .int .i64 240, .int .i64 n, .int .i64 a, .int .i64 ref] 41) := ⟨_, rfl⟩
      have HX9 : Hid (w9.heap[bX]? = some (.cells #[.int .i64 N1, .int .i64 d0, .int .i64 a, .int .i64 140, .int .i64 440, .int .i64 n, .int .i64 b, .int .i64 ref] 41 (0, 0))) := Lib.hid (by rw [hw9, hbX]; exact heap_alloc_new _ _)
      have HD9 : Hid (LgI w0 tb bL (.slice aV nV cV) l w9) := Lib.hid (by rw [hw9]; exact HD8.out.below (below_alloc _ _))
      have HX10 : Hid (w10.heap[bX]? = some (.cells #[.int .i64 N1, .int .i64 d0, .int .i64 a, .int .i64 140, .int .i64 440, .int .i64 n, .int .i64 b, .int .i64 ref] 41 (0, 0))) := Lib.hid (by rw [hw10]; exact obj_below HX9.out (below_alloc _ _))
      have HY10 : Hid (w10.heap[bY]? = some (.cells #[.int .i64 N2, .int .i64 d0, .int .i64 b, .int .i64 540, .int .i64 240, .int .i64 n, .int .i64 a, .int .i64 ref] 41 (0, 0))) := Lib.hid (by rw [hw10, hbY]; exact heap_alloc_new _ _)
      have HD10 : Hid (LgI w0 tb bL (.slice aV nV cV) l w10) := Lib.hid (by rw [hw10]; exact HD9.out.below (below_alloc _ _))
      have hne : bY ≠ bL := by have := obj_lt HD9.out.box; omega
      have HW9 := Lib.hid hw9
      have HW10 := Lib.hid hw10
      have HBX := Lib.hid hbX
      have HBY := Lib.hid hbY
      have HP1 : Hid (Calls Try.prog 18 #[.agg #[.slice aV nV cV], .agg #[.int .i64 N1, .int .i64 d0, .int .i64 a, .int .i64 140, .int .i64 440, .int .i64 n, .int .i64 b, .int .i64 ref]] w10 fun e w' => ∃ aX cX, e = .returned (.tuple #[.agg #[.slice aX n1 cX], .int .i64 0]) ∧ LgI w0 tb bL (.slice aX n1 cX) (l ++ [(⟨N1, d0, a, 140, 440, n, b, ref⟩ : Pst)]) (w'.setCell ⟨bL, 0, none⟩ (.slice aX n1 cX)) ∧ w'.heap[bL]? = some (.cells #[.slice aV nV cV] 27 (0, 0)) ∧ Below w10.heap.size w10 w') := Lib.hid
        (agr_post n1 HD10.out HOK.out (by rw [← HNV.out]; omega) POK1.out (by rw [← HNV.out]; exact hN1) HLD.out (by rw [hn1, HNV.out]))
      have HP2 : Hid (∀ aX cX W, LgI w0 tb bL (.slice aX n1 cX) (l ++ [(⟨N1, d0, a, 140, 440, n, b, ref⟩ : Pst)]) W → Calls Try.prog 18 #[.agg #[.slice aX n1 cX], .agg #[.int .i64 N2, .int .i64 d0, .int .i64 b, .int .i64 540, .int .i64 240, .int .i64 n, .int .i64 a, .int .i64 ref]] W fun e w' => ∃ aZ cZ, e = .returned (.tuple #[.agg #[.slice aZ n2 cZ], .int .i64 0]) ∧ LgI w0 tb bL (.slice aZ n2 cZ) (l ++ [(⟨N1, d0, a, 140, 440, n, b, ref⟩ : Pst)] ++ [(⟨N2, d0, b, 540, 240, n, a, ref⟩ : Pst)]) (w'.setCell ⟨bL, 0, none⟩ (.slice aZ n2 cZ)) ∧ w'.heap[bL]? = some (.cells #[.slice aX n1 cX] 27 (0, 0)) ∧ Below W.heap.size W w') := Lib.hid fun aX cX W hW =>
        agr_post n2 hW HOK1.out (by rw [List.length_append, List.length_singleton, ← HNV.out]; omega) POK2.out (by rw [List.length_append, List.length_singleton, ← HNV.out]; show N2 = _; omega) (by rw [lastP_snoc]; exact Int.le_refl _) (by rw [List.length_append, List.length_singleton, ← HNV.out]; omega)
      have hb8 := HD8.out.box
      have s0 := obj_cell hb8 0
      simp at s0
      clear hb hN1 hN2 hN3 hn1 hn2' hn3 hw9 hw10 hbX hbY hb8 HD8
      go_upto_region 9 with fail
      rw [← HW9.out, ← HBX.out]
      have hx9 := HX9.out
      have c0 := obj_cell hx9 0
      have c1 := obj_cell hx9 1
      have c2 := obj_cell hx9 2
      have c3 := obj_cell hx9 3
      have c4 := obj_cell hx9 4
      have c5 := obj_cell hx9 5
      have c6 := obj_cell hx9 6
      have c7 := obj_cell hx9 7
      simp at c0 c1 c2 c3 c4 c5 c6 c7
      clear hx9 s0
      go_upto_region 10 with fail
      rw [← HW10.out, ← HBY.out]
      have hx10 := HX10.out
      have hb10 := HD10.out.box
      have e0 := obj_cell hx10 0
      have e1 := obj_cell hx10 1
      have e2 := obj_cell hx10 2
      have e3 := obj_cell hx10 3
      have e4 := obj_cell hx10 4
      have e5 := obj_cell hx10 5
      have e6 := obj_cell hx10 6
      have e7 := obj_cell hx10 7
      simp at e0 e1 e2 e3 e4 e5 e6 e7
      have s0 := obj_cell hb10 0
      simp at s0
      clear hx10 hb10 c0 c1 c2 c3 c4 c5 c6 c7
      go_wp2_with fail
      refine (HP1.out).mono ?_
      rintro e w11 ⟨aX, cX, rfl, hI11, hbx, hb11⟩
      have HI11 := Lib.hid hI11
      have HY11 := Lib.hid (obj_below HY10.out hb11)
      obtain ⟨w12, hw12⟩ : ∃ W, W = w11.setCell ⟨bL, 0, none⟩ (.slice aX n1 cX) := ⟨_, rfl⟩
      have HI12 : Hid (LgI w0 tb bL (.slice aX n1 cX) (l ++ [(⟨N1, d0, a, 140, 440, n, b, ref⟩ : Pst)]) w12) := Lib.hid (by rw [hw12]; exact HI11.out)
      have HY12 : Hid (w12.heap[bY]? = some (.cells #[.int .i64 N2, .int .i64 d0, .int .i64 b, .int .i64 540, .int .i64 240, .int .i64 n, .int .i64 a, .int .i64 ref] 41 (0, 0))) := Lib.hid (by rw [hw12]; exact ((show w11.grownBy (w11.setCell ⟨bL, 0, none⟩ (.slice aX n1 cX)) (some bL) from setCell_grown _ _).block bY (obj_lt HY11.out) (by simp [hne])).trans HY11.out)
      have s1 := obj_cell hbx 0
      have f1 := obj_free hbx 0
      simp at s1
      have HW12 := Lib.hid hw12
      clear hI11 hb11 hbx hw12 s0 e0 e1 e2 e3 e4 e5 e6 e7 HP1 HI11 HY11 HX10 HX9 HD10 HD9 HY10
      go_upto_region 11 with fail
      rw [← HW12.out]
      have hy12 := HY12.out
      have hb12 := HI12.out.box
      have g0 := obj_cell hy12 0
      have g1 := obj_cell hy12 1
      have g2 := obj_cell hy12 2
      have g3 := obj_cell hy12 3
      have g4 := obj_cell hy12 4
      have g5 := obj_cell hy12 5
      have g6 := obj_cell hy12 6
      have g7 := obj_cell hy12 7
      simp at g0 g1 g2 g3 g4 g5 g6 g7
      have s0 := obj_cell hb12 0
      simp at s0
      clear hy12 hb12 s1 f1
      go_wp2_with fail
      refine (HP2.out _ _ _ HI12.out).mono ?_
      rintro e w13 ⟨aZ, cZ, rfl, hI13, hbx, hb13'⟩
      obtain ⟨w14, hw14⟩ : ∃ W, W = w13.setCell ⟨bL, 0, none⟩ (.slice aZ n2 cZ) := ⟨_, rfl⟩
      have HI14 : Hid (LgI w0 tb bL (.slice aZ n2 cZ) (l ++ [(⟨N1, d0, a, 140, 440, n, b, ref⟩ : Pst)] ++ [(⟨N2, d0, b, 540, 240, n, a, ref⟩ : Pst)]) w14) := Lib.hid (by rw [hw14]; exact hI13)
      have s1 := obj_cell hbx 0
      have f1 := obj_free hbx 0
      simp at s1
      have HW14 := Lib.hid hw14
      clear hI13 hb13' hbx hw14 s0 g0 g1 g2 g3 g4 g5 g6 g7 HP2 HI12 HY12
      obtain ⟨L, hL⟩ : ∃ L, L = l ++ [(⟨N1, d0, a, 140, 440, n, b, ref⟩ : Pst)] ++ [(⟨N2, d0, b, 540, 240, n, a, ref⟩ : Pst)] := ⟨_, rfl⟩
      have HLL : Hid ((lastP L).day = d0) := Lib.hid (by rw [hL, lastP_snoc])
      rw [← hL] at HI14 HOK2 HAG2 HLE2
      clear hL HOK1 POK1 POK2
      go_upto_region 12 with fail
      rw [← HW14.out]
      clear s1 f1
      go_wp2_with fail
      refine (n_in HI14.out.si 3 (by omega) (by omega)).mono ?_
      rintro e w15 ⟨rr, rfl, rr0, rr1, hi15, hg15⟩
      have HD15 := Lib.hid (HI14.out.turn hi15.src hg15)
      clear hi15 hg15 HI14
      obtain ⟨d1, hd1'⟩ : ∃ q, q = d0 + rr := ⟨_, rfl⟩
      have hwd : IntKind.i64.wrap (d0 + rr) = d1 := by rw [hd1']; exact IntWalk.i64_in _ (by omega)
      have hdd : d0 ≤ d1 ∧ d1 ≤ d0 + 2 := by omega
      clear hd1'
      have hb15 := HD15.out.box
      have s0 := obj_cell hb15 0
      simp at s0
      clear hb15
      go_wp2_with fail
      refine (sPosting_one tb N3 d1 w15 HD15.out.si.src (by rw [HN3.out, HN2.out, HN1.out]; omega) (by omega)).mono ?_
      rintro e w16 ⟨⟨p0, p1, p2, p3, p4, p5, p6, p7⟩, rfl, hpk, hq0, hq1, -, hq6, hq3, hq4, hsi⟩
      simp only at hq0 hq1 hq6 hq3 hq4
      simp only [pstC]
      have HD16 := Lib.hid (HD15.out.turn hsi.src hsi.old)
      have HPK := Lib.hid hpk
      have HQ0 := Lib.hid hq0
      have HQ1 := Lib.hid hq1
      have HQ6 := Lib.hid hq6
      have HQ3 := Lib.hid hq3
      have HQ4 := Lib.hid hq4
      clear hsi s0 HD15 hpk hq0 hq1 hq6 hq3 hq4
      obtain ⟨bZ, hbZ⟩ : ∃ q, q = w16.heap.size := ⟨_, rfl⟩
      obtain ⟨w17, hw17⟩ : ∃ W, W = w16.alloc (.cells #[.int .i64 p0, .int .i64 p1, .int .i64 p2, .int .i64 p3, .int .i64 p4, .int .i64 p5, .int .i64 p6, .int .i64 p7] 41) := ⟨_, rfl⟩
      have HZ17 : Hid (w17.heap[bZ]? = some (.cells #[.int .i64 p0, .int .i64 p1, .int .i64 p2, .int .i64 p3, .int .i64 p4, .int .i64 p5, .int .i64 p6, .int .i64 p7] 41 (0, 0))) := Lib.hid (by rw [hw17, hbZ]; exact heap_alloc_new _ _)
      have HD17 : Hid (LgI w0 tb bL (.slice aZ n2 cZ) L w17) := Lib.hid (by rw [hw17]; exact HD16.out.below (below_alloc _ _))
      have hzt : bZ ≠ tb := by have := HD16.out.si.src.lt; omega
      have HW17 := Lib.hid hw17
      have HBZ := Lib.hid hbZ
      clear hw17 hbZ HD16
      go_upto_region 14 with fail
      rw [← HW17.out, ← HBZ.out]
      go_wp2_with fail
      refine (n_in HD17.out.si 2 (by omega) (by omega)).mono ?_
      rintro e w18 ⟨r2, rfl, r20, r21, hi18, hg18⟩
      have HD18 := Lib.hid (HD17.out.turn hi18.src hg18)
      have HZ18 := Lib.hid (obj_turn HZ17.out hg18 hzt)
      clear hi18 hg18 HD17 HZ17
      by_cases hr2 : r2 = 1
      · subst hr2
        have HP3 : Hid (Calls Try.prog 18 #[.agg #[.slice aZ n2 cZ], .agg #[.int .i64 p0, .int .i64 p1, .int .i64 p2, .int .i64 p3, .int .i64 p4, .int .i64 p5, .int .i64 p6, .int .i64 p7]] w18 fun e w' => ∃ aX cX, e = .returned (.tuple #[.agg #[.slice aX n3 cX], .int .i64 0]) ∧ LgI w0 tb bL (.slice aX n3 cX) (L ++ [(⟨p0, p1, p2, p3, p4, p5, p6, p7⟩ : Pst)]) (w'.setCell ⟨bL, 0, none⟩ (.slice aX n3 cX)) ∧ w'.heap[bL]? = some (.cells #[.slice aZ n2 cZ] 27 (0, 0)) ∧ Below w18.heap.size w18 w') := Lib.hid
          (agr_post n3 HD18.out HOK2.out (by rw [HLE2.out, Hn2.out, Hn1.out]; omega) HPK.out (by rw [HLE2.out]; show p0 = _; rw [HQ0.out, HN3.out, HN2.out, HN1.out, Hn2.out, Hn1.out]; simp) (by rw [HLL.out]; show d0 ≤ p1; rw [HQ1.out]; exact hdd.1) (by rw [HLE2.out, Hn3.out]))
        have hz18 := HZ18.out
        have hb18 := HD18.out.box
        have z0 := obj_cell hz18 0
        have z1 := obj_cell hz18 1
        have z2 := obj_cell hz18 2
        have z3 := obj_cell hz18 3
        have z4 := obj_cell hz18 4
        have z5 := obj_cell hz18 5
        have z6 := obj_cell hz18 6
        have z7 := obj_cell hz18 7
        simp at z0 z1 z2 z3 z4 z5 z6 z7
        have s0 := obj_cell hb18 0
        simp at s0
        clear hz18 hb18
        go_wp2_with fail
        refine (HP3.out).mono ?_
        rintro e w19 ⟨aU, cU, rfl, hI19, hbx, hb19⟩
        have HI20 := Lib.hid hI19
        have s1 := obj_cell hbx 0
        have f1 := obj_free hbx 0
        simp at s1
        have HLE3 : Hid (n3 = (L ++ [(⟨p0, p1, p2, p3, p4, p5, p6, p7⟩ : Pst)]).length) := Lib.hid (by rw [List.length_append, List.length_singleton, HLE2.out, Hn3.out])
        have hn3i : (n3 : Int) ≤ 3 * (most - (k - 1)) := by rw [Hn3.out, Hn2.out, Hn1.out]; omega
        have HAG3 : Hid (AgrL (L ++ [(⟨p0, p1, p2, p3, p4, p5, p6, p7⟩ : Pst)])) := Lib.hid (AgrL.plain HAG2.out _ HQ6.out HQ3.out HQ4.out)
        have HOK3 : Hid (LdgOk (L ++ [(⟨p0, p1, p2, p3, p4, p5, p6, p7⟩ : Pst)])) := Lib.hid (HOK2.out.snoc (by rw [HLE2.out, Hn2.out, Hn1.out]; omega) HPK.out (by rw [HLE2.out]; show p0 = _; rw [HQ0.out, HN3.out, HN2.out, HN1.out, Hn2.out, Hn1.out]; simp) (by rw [HLL.out]; show d0 ≤ p1; rw [HQ1.out]; exact hdd.1))
        have HLD3 : Hid ((lastP (L ++ [(⟨p0, p1, p2, p3, p4, p5, p6, p7⟩ : Pst)])).day ≤ d1) := Lib.hid (by rw [lastP_snoc]; show p1 ≤ d1; rw [HQ1.out]; exact Int.le_refl _)
        clear hI19 hbx hb19 s0 z0 z1 z2 z3 z4 z5 z6 z7
        go_wp2
        go_roundw
        case rel => exact ⟨L ++ [(⟨p0, p1, p2, p3, p4, p5, p6, p7⟩ : Pst)], k - 1, d1, aU, n3, cU, rfl, by first | rfl | go_num, by omega, by omega, by omega, by omega, hn3i, HLE3, HLD3, HAG3, HOK3, HI20⟩
        case measure => simp [RowKit.intOf]; omega
      · have HLE3 : Hid (n2 = L.length) := Lib.hid HLE2.out.symm
        have hn2i : (n2 : Int) ≤ 3 * (most - (k - 1)) := by rw [Hn2.out, Hn1.out]; omega
        have HLD3 : Hid ((lastP L).day ≤ d1) := Lib.hid (by rw [HLL.out]; exact hdd.1)
        go_wp2
        go_roundw
        case rel => exact ⟨L, k - 1, d1, aZ, n2, cZ, rfl, by first | rfl | go_num, by omega, by omega, by omega, by omega, hn2i, HLE3, HLD3, HAG2, HOK2, HD18⟩
        case measure => simp [RowKit.intOf]; omega
    · have hkf : ¬ 0 < k := hk
      have hx := HI.out.box
      have s0 := obj_cell hx 0
      simp at s0
      have hr := (HI.out.si.old.block _ (obj_lt HR0.out) (by simp [hrne])).trans HR0.out
      have t0 := obj_cell hr 0
      have f0 := obj_free hr 0
      simp at t0
      have HHR := Lib.hid hr
      have hfin := HI.out
      have hln : (l.length : Int) ≤ 3 * most := by rw [← HNV.out]; omega
      have hdl : (lastP l).day ≤ 2 * most := by have := HLD.out; omega
      clear hx hr
      go_wp2
      have hset := obj_set HHR.out 0 (.slice aV nV cV)
      simp only [List.setIfInBounds_toArray, List.set_cons_zero] at hset
      have y0 := obj_cell hset 0
      simp at y0
      have hg : wr.grownBy (wr.setCell ⟨w.heap.size, 0, none⟩ (.slice aV nV cV)) (some w.heap.size) := setCell_grown _ _
      refine bodyPost_ret (v := .agg #[.slice aV nV cV]) (by simp [results, Try.results16, go_sem, y0]) rfl ⟨l, _, rfl, HAG.out, HOK.out, hdl, hln, PstsAt.keep hfin.rows (lone_ldg HHR.out) hg, (HEND.out _ hfin.si).set (Nat.le_refl _) _ _⟩

end Go.Proofs.Ytdbpbmejgdbppaa
