/- The walk of IndexGrows: a greater value never pays less, the final payment is never less than the face, and is the scaled one if the index has not fallen; for every tape and numbers. -/
import Derived.Test.YthajkhonapjihabIxL
set_option linter.unusedSimpArgs false
set_option linter.unusedVariables false
namespace Go.Proofs.Ythajkhonapjihab
open Go.RowKit Go.Lib Go.Proofs

theorem IxI.other {w : World} {tb b c g cap : Nat} {L : List Int} {A : World} (h : IxI w tb b c g cap L A) {q : Nat} (hq : w.heap.size ≤ q) (hb : q ≠ b) (hc : q ≠ c) (hg : q ≠ g) (k : Nat) (v : Value) : IxI w tb b c g cap L (A.setCell ⟨q, k, none⟩ v) :=
  ⟨h.si.set hq _ _, (Below.heap_setCell A _ _ b (by show b ≠ q; omega)).trans h.sec, (Below.heap_setCell A _ _ c (by show c ≠ q; omega)).trans h.ix, h.own.kept (setCell_grown k v) (Or.inr (by simp [Value.ownBlock]; omega)), h.bd, h.nb, h.nc, h.gb, h.gc⟩
theorem IxI.news {w : World} {tb b c g cap : Nat} {L : List Int} {A : World} (h : IxI w tb b c g cap L A) : ∀ j u, (cellsI L)[j]? = some u → A.cell? ((⟨g, 0, none⟩ : Addr).add j) = some u := by
  intro j u hj
  have hl : j < 14 := by
    have := (List.getElem?_eq_some_iff.1 hj).1
    have h2 := h.len
    simp [cellsI] at this
    omega
  have he : (⟨g, 0, none⟩ : Addr).add j = ⟨g, j, none⟩ := by unfold Addr.add; split <;> simp_all
  rw [he, h.own.cellAt j (by omega), hj]
theorem ints_one (L : List Int) : ∀ u ∈ cellsI L, u.oneCell' = true := by
  intro u hu
  obtain ⟨x, _, rfl⟩ := List.mem_map.1 hu
  rfl

/-- With a second index in block d, whose values are in another row of the call's own. -/
structure IxJ (w : World) (tb b c g : Nat) (L : List Int) (d g2 cap2 : Nat) (M : List Int) (W : World) : Prop where
  a : IxI w tb b c g 14 L W
  box : W.heap[d]? = some (.cells #[.int .i64 0, .slice (some ⟨g2, 0, none⟩) 14 cap2] 29 (0, 0))
  own : W.ownsRow w.heap.size 3 1 (.slice (some ⟨g2, 0, none⟩) 14 cap2) 14 (cellsI M)
  bd : ∀ x ∈ M, 50 ≤ x ∧ x ≤ 405
  nd : d ≠ tb
  gd : g2 ≠ d
  gb : g2 ≠ b
  gc : g2 ≠ c
  gg : g2 ≠ g
theorem IxJ.below {w : World} {tb b c g : Nat} {L : List Int} {d g2 cap2 : Nat} {M : List Int} {A B : World} (h : IxJ w tb b c g L d g2 cap2 M A) (hb : Below A.heap.size A B) : IxJ w tb b c g L d g2 cap2 M B :=
  ⟨h.a.below hb, obj_below h.box hb, ownsRow_below h.own hb, h.bd, h.nd, h.gd, h.gb, h.gc, h.gg⟩
theorem IxJ.turn {w : World} {tb b c g : Nat} {L : List Int} {d g2 cap2 : Nat} {M : List Int} {A B : World} (h : IxJ w tb b c g L d g2 cap2 M A) (hi : SI w tb B) (hg : A.grownBy B (some tb)) : IxJ w tb b c g L d g2 cap2 M B :=
  ⟨h.a.turn hi hg, obj_turn h.box hg h.nd, h.own.kept hg (ownBlock_ne h.own tb hi.lt), h.bd, h.nd, h.gd, h.gb, h.gc, h.gg⟩
theorem IxJ.set {w : World} {tb b c g : Nat} {L : List Int} {d g2 cap2 : Nat} {M : List Int} {A : World} (h : IxJ w tb b c g L d g2 cap2 M A) (k : Nat) {x : Int} (hx : 50 ≤ x ∧ x ≤ 405) : IxJ w tb b c g L d g2 cap2 (M.set k x) (A.setCell ⟨g2, k, none⟩ (.int .i64 x)) := by
  obtain ⟨h1, _⟩ := h.own.stored k (.int .i64 x)
  refine ⟨h.a.other (ownBlock_le h.own g2 rfl) h.gb h.gc h.gg _ _, (Below.heap_setCell A _ _ d (by show d ≠ g2; exact fun e => h.gd e.symm)).trans h.box, by rw [← cellsI_set]; exact h1, fun y hy => ?_, h.nd, h.gd, h.gb, h.gc, h.gg⟩
  rcases List.mem_or_eq_of_mem_set hy with hy | rfl
  · exact h.bd y hy
  · exact hx
theorem IxJ.len {w : World} {tb b c g : Nat} {L : List Int} {d g2 cap2 : Nat} {M : List Int} {A : World} (h : IxJ w tb b c g L d g2 cap2 M A) : M.length = 14 := by have := h.own.1; simpa [cellsI] using this

theorem scaled_more {L : List Int} {a d : Int} (a0 : 0 ≤ a) {x : Int} (hl : L.length = 14) (hb : ∀ y ∈ L, 50 ≤ y) (k : Nat) (hk : k < 14) (hk1 : 1 ≤ k) (hd : d / 30 - 3 = k) (hx : L.getD k 0 ≤ x) : scaledI L a d ≤ scaledI (L.set k x) a d := by
  unfold scaledI scaleI
  rw [hd, Int.toNat_natCast]
  have h1 : (L.set k x).getD k 0 = x := by simp [List.getD, hl, hk]
  have h2 : (L.set k x).getD 0 0 = L.getD 0 0 := by simp [List.getD, List.getElem?_set, show ¬ k = 0 by omega]
  rw [h1, h2]
  have h3 := hb (L.getD 0 0) (by rw [getD_eq (by omega)]; exact List.getElem_mem _)
  have h4 : 2 * a * (L.getD k 0) ≤ 2 * a * x := Int.mul_le_mul_of_nonneg_left hx (by omega)
  exact Int.ediv_le_ediv (by omega) (by omega)

set_option maxRecDepth 100000 in
set_option maxHeartbeats 8000000 in
theorem ixgrows_any (v : Value) (n : Nat) (a x : Int) (w : World) (hi : IntsAt w v n w.heap.size) (hn : n ≤ 9223372036854775807) (ha : 0 ≤ a) (ha1 : a ≤ 65535) (x0 : 0 ≤ x) (x1 : x ≤ 255) :
    Calls Try.prog 3 #[v, .int .u16 a, .int .u8 x] w fun e w' => e = .returned (.bool true) ∧ Below w.heap.size w w' := by
  obtain ⟨i0, hi0, hz0, hz1, hz2⟩ := info_parts Try.infoInt
  have HNEW := Lib.hid (sNew_any v n w hi hn)
  have HSN := Lib.hid sane36_any
  have HT := Lib.hid tenth36_any
  have HBD := Lib.hid (show ∀ x ∈ tenthL, 50 ≤ x ∧ x ≤ 150 by decide)
  clear hi hn
  go_enter Try.func3, Try.ntmps3
  go_wp2_with fail
  refine (HNEW.out).mono ?_
  rintro e w1 ⟨rfl, t1, b1⟩
  have HW1 := Lib.hid b1
  have HT1 := Lib.hid t1
  have hlt1 := t1.lt
  clear t1 b1 HNEW
  go_wp2_with fail
  refine (HT.out _).mono ?_
  rintro e w2 ⟨g, rfl, hg, ho, b2⟩
  have hgl := obj_lt ho
  have hI : IxI w1 w.heap.size w2.heap.size (w2.heap.size + 1) g 14 tenthL ((w2.alloc (.cells #[.int .i64 1, .int .i64 1, .int .i64 90, .int .i64 450, .int .i64 5000, .int .i64 6, .bool true] 27)).alloc (.cells #[.int .i64 0, .slice (some ⟨g, 0, none⟩) 14 14] 29)) :=
    ⟨((si_start HT1.out).below b2).below (below2 w2 _ _), alloc1_at w2 _ _, alloc2_at w2 _ _, ownsRow_below (own_of_cells ho (by decide) (by decide) w1.heap.size hg) (below2 w2 _ _), HBD.out, by have := b2.size; omega, by have := b2.size; omega, by omega, by omega⟩
  have HI := Lib.hid hI
  clear hI ho b2 HT HBD
  go_wp2
  generalize (w2.alloc (.cells #[.int .i64 1, .int .i64 1, .int .i64 90, .int .i64 450, .int .i64 5000, .int .i64 6, .bool true] 27)).alloc (.cells #[.int .i64 0, .slice (some ⟨g, 0, none⟩) 14 14] 29) = w3 at *
  obtain ⟨cc, hcc⟩ : ∃ cc, cc = w2.heap.size + 1 := ⟨_, rfl⟩
  obtain ⟨bb, hbb⟩ : ∃ bb, bb = w2.heap.size := ⟨_, rfl⟩
  rw [← hcc]
  rw [← hcc] at HI
  rw [← hbb]
  rw [← hbb] at HI
  clear hcc hbb hgl
  go_loopw [30] (fun iv wr => ∃ (k : Nat) (L : List Int), iv = .int .i64 k ∧ k ≤ 14 ∧ Hid (IxI w1 w.heap.size bb cc g 14 L wr)) (fun iv _ => 14 - (RowKit.intOf iv).toNat)
  case atStart => exact ⟨0, tenthL, rfl, by omega, HI⟩
  case round =>
    clear HI
    obtain ⟨k, L, rfl, hk, HI⟩ := hrel
    by_cases hlt : k < 14
    · have hk0 : (0 : Int) ≤ (k : Int) := by omega
      have hk1 : (k : Int) < 14 := by omega
      have HRG := Lib.hid (fun W (h : SI w1 w.heap.size W) => range_in h 50 150 (by omega) (by omega) (by omega))
      go_upto_region 6 with fail
      have hcs : ∀ j, wr.cell? ⟨cc, j, none⟩ = #[.int .i64 0, .slice (some ⟨g, 0, none⟩) 14 14][j]? := obj_cell HI.out.ix
      go_region_held3 (fun W => ∀ j, W.cell? ⟨cc, j, none⟩ = #[.int .i64 0, .slice (some ⟨g, 0, none⟩) 14 14][j]?) (first | exact hcs | exact hct | exact hcu) (first | (go_at_call 9; refine Calls.mono (HRG.out _ (by first | exact HI.out.si | exact HI.out.drew.si)) ?_; rintro e x6 ⟨r, rfl, r0, r1, hi6, hg6⟩; (have HJ : Hid (IxI w1 w.heap.size bb cc g 14 L x6) := Lib.hid (by first | exact HI.out.turn hi6 hg6 | exact HI.out.drew.turn hi6 hg6)); (have hct : ∀ j, x6.cell? ⟨cc, j, none⟩ = #[.int .i64 0, .slice (some ⟨g, 0, none⟩) 14 14][j]? := obj_cell HJ.out.ix); (have hcl := HJ.out.own.cellAt k (by omega)); (rw [cellsI_get _ k (by rw [HJ.out.len]; omega)] at hcl); (have hfr := HJ.out.own.frozenAt k); (have HJ2 : Hid (IxI w1 w.heap.size bb cc g 14 (L.set k r) (x6.setCell ⟨g, k, none⟩ (.int .i64 r))) := Lib.hid (HJ.out.set k ⟨r0, r1⟩)); (have hcu : ∀ j, (x6.setCell ⟨g, k, none⟩ (.int .i64 r)).cell? ⟨cc, j, none⟩ = #[.int .i64 0, .slice (some ⟨g, 0, none⟩) 14 14][j]? := obj_cell HJ2.out.ix); clear hi6 hg6))
      go_wp2
      go_roundw
      case rel => exact ⟨k + 1, L.set k r, by first | rfl | go_num, by omega, HJ2⟩
      case measure => simp [RowKit.intOf]; omega
    · obtain rfl : k = 14 := by omega
      have hx7 := HI.out.ix
      have u0 := obj_cell hx7 0
      have u1 := obj_cell hx7 1
      simp at u0 u1
      have hgl := (HI.out.own.lt g rfl).2
      have hbl := obj_lt HI.out.sec
      have hcl := obj_lt hx7
      have HNW := Lib.hid HI.out.news
      have hl14 := HI.out.len
      have HNL : Hid ((cellsI L).length = 14 * 1) := Lib.hid (by simp [cellsI, hl14])
      clear hx7 hl14
      go_wp2_with (at_builtin; refine wpList_append_own _ rfl _ _ 22 rfl wr.heap.size 3 i0 (.int .i64 0) 1 8 Try.underlying22 hi0 hz0 hz1 hz2 rfl (by decide) (.slice none 0 0) 0 [] rfl (World.ownsRow_nil _ _ _ _) ⟨g, 0, none⟩ 14 14 (cellsI L) rfl HNL.out HNW.out (ints_one L) (by unfold maxLen; omega) (by omega) (Nat.le_refl _) ?_; intro v' w4 hown4 hgr4 _; (have b4 : Below wr.heap.size wr w4 := below_grownBy hgr4); clear hgr4; (rw [Nat.zero_add, List.nil_append] at hown4); (obtain ⟨g2, cap2, rfl, hg2, hcap2⟩ := owns_shape hown4 (by omega)); (have HO4 := Lib.hid hown4); (have B4 := Lib.hid b4); clear hown4 b4)
      have hsz := HI.out.si.old.size
      have hJ : IxJ w1 w.heap.size bb cc g L w4.heap.size g2 cap2 L (w4.alloc (.cells #[.int .i64 0, .slice (some ⟨g2, 0, none⟩) 14 cap2] 29)) :=
        ⟨(HI.out.below B4.out).below (below_alloc _ _), heap_alloc_new w4 _, ownsRow_mono (HO4.out.alloc _) hsz, fun y hy => by have := HI.out.bd y hy; omega, by have := B4.out.size; omega, by have := (HO4.out.lt g2 rfl).2; omega, by omega, by omega, by omega⟩
      have HJ := Lib.hid hJ
      have HRG := Lib.hid (range_in hJ.a.si 90 450 (by omega) (by omega) (by omega))
      clear hJ u0 u1 HI HO4 B4 HNW HNL hgl hbl hcl
      with_reducible refine Calls.mono (HRG.out) ?_
      rintro e x7 ⟨d, rfl, d0, d1, hi7, hg7⟩
      have HJ7 := Lib.hid (HJ.out.turn hi7 hg7)
      clear hi7 hg7 HJ HRG
      obtain ⟨dd, hdd⟩ : ∃ dd, dd = w4.heap.size := ⟨_, rfl⟩
      rw [← hdd]
      rw [← hdd] at HJ7
      clear hdd
      have hd30 : d / 30 = 3 ∨ 3 < d / 30 := by omega
      have HFIN : Hid (∀ M : List Int, (∀ W, IxJ w1 w.heap.size bb cc g L dd g2 cap2 M W → IdxAt W g2 M ∧ 14 ≤ cap2)) := Lib.hid fun M W hW => idx_own hW.own hW.bd
      have HF1 := Lib.hid (show a ≤ finalI L a ∧ finalI L a = (if scaledI L a 450 < a then a else scaledI L a 450) from ⟨by unfold finalI; split <;> omega, rfl⟩)
      have S1 := Lib.hid (fun W (hW : IdxAt W g L) => ixScaled_ok hW (Nat.le_refl 14) ha ha1 d0 d1)
      have S3 := Lib.hid (fun W (hW : IdxAt W g L) => ixFinal_ok hW (Nat.le_refl 14) ha ha1)
      have S4 := Lib.hid (fun W (hW : IdxAt W g L) => ixScaled_ok hW (Nat.le_refl 14) ha ha1 (show (90 : Int) ≤ 450 by decide) (show (450 : Int) ≤ 450 by decide))
      have S2 := Lib.hid (fun M W (hW : IdxAt W g2 M) (hc : 14 ≤ cap2) => ixScaled_ok hW hc ha ha1 d0 d1)
      have HMO := Lib.hid (fun (k : Nat) (y : Int) (hk : k < 14) (hk1 : 1 ≤ k) (hd : d / 30 - 3 = k) (hy : L.getD k 0 ≤ y) => scaled_more (L := L) (a := a) (d := d) ha HJ7.out.a.len (fun q hq => (HJ7.out.a.bd q hq).1) k hk hk1 hd hy)
      have hbase : ∃ M q, Hid (q ≤ scaledI M a d) ∧ q = scaledI L a d ∧ True := ⟨L, _, Lib.hid (Int.le_refl _), rfl, trivial⟩
      clear hbase
      rcases hd30 with hd3 | hd3
      · have HLE : Hid (scaledI L a d ≤ scaledI L a d) := Lib.hid (Int.le_refl _)
        have hnn : ¬ 3 < d / 30 := by omega
        have hs7 := HJ7.out.a.sec
        have hx7 := HJ7.out.a.ix
        have ht7 := HJ7.out.box
        have v0 := obj_cell hs7 0
        have v1 := obj_cell hs7 1
        have v2 := obj_cell hs7 2
        have v3 := obj_cell hs7 3
        have v4 := obj_cell hs7 4
        have v5 := obj_cell hs7 5
        have v6 := obj_cell hs7 6
        have u0 := obj_cell hx7 0
        have u1 := obj_cell hx7 1
        have t0 := obj_cell ht7 0
        have t1 := obj_cell ht7 1
        simp at v0 v1 v2 v3 v4 v5 v6 u0 u1 t0 t1
        clear hs7 hx7 ht7
        have HX8 := HFIN.out L
        go_wp2_with fail
        with_reducible refine Calls.mono (S1.out _ HJ7.out.a.idx.1) ?_
        rintro e y21 ⟨rfl, by21⟩
        have K1 := Lib.hid (HJ7.out.below by21)
        clear by21 v0 v1 v2 v3 v4 v5 v6 u0 u1 t0 t1
        have hs21 := K1.out.a.sec
        have hx21 := K1.out.a.ix
        have ht21 := K1.out.box
        have v0 := obj_cell hs21 0
        have v1 := obj_cell hs21 1
        have v2 := obj_cell hs21 2
        have v3 := obj_cell hs21 3
        have v4 := obj_cell hs21 4
        have v5 := obj_cell hs21 5
        have v6 := obj_cell hs21 6
        have u0 := obj_cell hx21 0
        have u1 := obj_cell hx21 1
        have t0 := obj_cell ht21 0
        have t1 := obj_cell ht21 1
        simp at v0 v1 v2 v3 v4 v5 v6 u0 u1 t0 t1
        clear hs21 hx21 ht21
        go_wp2_with fail
        with_reducible refine Calls.mono (S2.out _ _ (HX8 _ K1.out).1 (HX8 _ K1.out).2) ?_
        rintro e y22 ⟨rfl, by22⟩
        have K2 := Lib.hid (K1.out.below by22)
        clear by22 v0 v1 v2 v3 v4 v5 v6 u0 u1 t0 t1
        have hs22 := K2.out.a.sec
        have hx22 := K2.out.a.ix
        have ht22 := K2.out.box
        have v0 := obj_cell hs22 0
        have v1 := obj_cell hs22 1
        have v2 := obj_cell hs22 2
        have v3 := obj_cell hs22 3
        have v4 := obj_cell hs22 4
        have v5 := obj_cell hs22 5
        have v6 := obj_cell hs22 6
        have u0 := obj_cell hx22 0
        have u1 := obj_cell hx22 1
        have t0 := obj_cell ht22 0
        have t1 := obj_cell ht22 1
        simp at v0 v1 v2 v3 v4 v5 v6 u0 u1 t0 t1
        clear hs22 hx22 ht22
        go_wp2_with fail
        with_reducible refine Calls.mono (S3.out _ K2.out.a.idx.1) ?_
        rintro e y23 ⟨rfl, by23⟩
        have K3 := Lib.hid (K2.out.below by23)
        clear by23 v0 v1 v2 v3 v4 v5 v6 u0 u1 t0 t1
        have hs23 := K3.out.a.sec
        have hx23 := K3.out.a.ix
        have ht23 := K3.out.box
        have v0 := obj_cell hs23 0
        have v1 := obj_cell hs23 1
        have v2 := obj_cell hs23 2
        have v3 := obj_cell hs23 3
        have v4 := obj_cell hs23 4
        have v5 := obj_cell hs23 5
        have v6 := obj_cell hs23 6
        have u0 := obj_cell hx23 0
        have u1 := obj_cell hx23 1
        have t0 := obj_cell ht23 0
        have t1 := obj_cell ht23 1
        simp at v0 v1 v2 v3 v4 v5 v6 u0 u1 t0 t1
        clear hs23 hx23 ht23
        go_wp2_with fail
        with_reducible refine Calls.mono (S4.out _ K3.out.a.idx.1) ?_
        rintro e y24 ⟨rfl, by24⟩
        have K4 := Lib.hid (K3.out.below by24)
        clear by24 v0 v1 v2 v3 v4 v5 v6 u0 u1 t0 t1
        have hs24 := K4.out.a.sec
        have hx24 := K4.out.a.ix
        have ht24 := K4.out.box
        have v0 := obj_cell hs24 0
        have v1 := obj_cell hs24 1
        have v2 := obj_cell hs24 2
        have v3 := obj_cell hs24 3
        have v4 := obj_cell hs24 4
        have v5 := obj_cell hs24 5
        have v6 := obj_cell hs24 6
        have u0 := obj_cell hx24 0
        have u1 := obj_cell hx24 1
        have t0 := obj_cell ht24 0
        have t1 := obj_cell ht24 1
        simp at v0 v1 v2 v3 v4 v5 v6 u0 u1 t0 t1
        clear hs24 hx24 ht24
        have HW12 := Lib.hid (HW1.out.grown K4.out.a.si.old HW1.out.size (by simp))
        generalize scaledI L a d = p1 at *
        generalize scaledI L a d = p2 at *
        generalize scaledI L a 450 = p3 at *
        generalize finalI L a = p4 at *
        clear S1 S2 S3 S4 HFIN HX8
        have r1 := HF1.out.1
        have r2 := HF1.out.2
        have r3 := HLE.out
        by_cases hlt : p3 < a
        · rw [if_pos hlt] at r2
          subst r2
          go_wp2_with (go_at_call 12; refine (HSN.out _).mono ?_; rintro e w6 ⟨rfl, b6⟩)
          go_ret
          exact ⟨rfl, HW12.out.trans (b6.mono HW12.out.size)⟩
        · rw [if_neg hlt] at r2
          subst r2
          have hle : a ≤ p4 := by omega
          go_wp2_with (go_at_call 12; refine (HSN.out _).mono ?_; rintro e w6 ⟨rfl, b6⟩)
          go_ret
          exact ⟨rfl, HW12.out.trans (b6.mono HW12.out.size)⟩
      · obtain ⟨k, hk⟩ : ∃ k : Nat, d / 30 - 3 = k := ⟨(d / 30 - 3).toNat, by omega⟩
        have hk1 : 1 ≤ k := by omega
        have hk13 : k < 14 := by omega
        have d30 : d / 30 = (k : Int) + 3 := by omega
        have hki : (k : Int) < 14 := by omega
        have hk0 : (0 : Int) ≤ (k : Int) := by omega
        have hkl := HJ7.out.len
        have hcl := HJ7.out.own.cellAt k (by omega)
        rw [cellsI_get _ k (by omega)] at hcl
        have hfr := HJ7.out.own.frozenAt k
        have hvb := HJ7.out.a.bd (L.getD k 0) (by rw [getD_eq (by omega)]; exact List.getElem_mem _)
        have HLE := Lib.hid (HMO.out k (L.getD k 0 + x) hk13 hk1 hk (by omega))
        have HJS := Lib.hid (HJ7.out.set k (x := L.getD k 0 + x) (by omega))
        generalize hM : L.set k (L.getD k 0 + x) = M at HLE HJS
        have ht7 := HJ7.out.box
        have t0 := obj_cell ht7 0
        have t1 := obj_cell ht7 1
        simp at t0 t1
        generalize L.getD k 0 = vk at *
        clear hM ht7 hkl hk HMO
        go_upto_region 12 with fail
        generalize x7.setCell ⟨g2, k, none⟩ (.int .i64 (vk + x)) = w8 at *
        clear t0 t1 hcl hfr d30 hd3
        have hs8 := HJS.out.a.sec
        have hx8 := HJS.out.a.ix
        have ht8 := HJS.out.box
        have v0 := obj_cell hs8 0
        have v1 := obj_cell hs8 1
        have v2 := obj_cell hs8 2
        have v3 := obj_cell hs8 3
        have v4 := obj_cell hs8 4
        have v5 := obj_cell hs8 5
        have v6 := obj_cell hs8 6
        have u0 := obj_cell hx8 0
        have u1 := obj_cell hx8 1
        have t0 := obj_cell ht8 0
        have t1 := obj_cell ht8 1
        simp at v0 v1 v2 v3 v4 v5 v6 u0 u1 t0 t1
        clear hs8 hx8 ht8
        have HX8 := HFIN.out M
        go_wp2_with fail
        with_reducible refine Calls.mono (S1.out _ HJS.out.a.idx.1) ?_
        rintro e y21 ⟨rfl, by21⟩
        have K1 := Lib.hid (HJS.out.below by21)
        clear by21 v0 v1 v2 v3 v4 v5 v6 u0 u1 t0 t1
        have hs21 := K1.out.a.sec
        have hx21 := K1.out.a.ix
        have ht21 := K1.out.box
        have v0 := obj_cell hs21 0
        have v1 := obj_cell hs21 1
        have v2 := obj_cell hs21 2
        have v3 := obj_cell hs21 3
        have v4 := obj_cell hs21 4
        have v5 := obj_cell hs21 5
        have v6 := obj_cell hs21 6
        have u0 := obj_cell hx21 0
        have u1 := obj_cell hx21 1
        have t0 := obj_cell ht21 0
        have t1 := obj_cell ht21 1
        simp at v0 v1 v2 v3 v4 v5 v6 u0 u1 t0 t1
        clear hs21 hx21 ht21
        go_wp2_with fail
        with_reducible refine Calls.mono (S2.out _ _ (HX8 _ K1.out).1 (HX8 _ K1.out).2) ?_
        rintro e y22 ⟨rfl, by22⟩
        have K2 := Lib.hid (K1.out.below by22)
        clear by22 v0 v1 v2 v3 v4 v5 v6 u0 u1 t0 t1
        have hs22 := K2.out.a.sec
        have hx22 := K2.out.a.ix
        have ht22 := K2.out.box
        have v0 := obj_cell hs22 0
        have v1 := obj_cell hs22 1
        have v2 := obj_cell hs22 2
        have v3 := obj_cell hs22 3
        have v4 := obj_cell hs22 4
        have v5 := obj_cell hs22 5
        have v6 := obj_cell hs22 6
        have u0 := obj_cell hx22 0
        have u1 := obj_cell hx22 1
        have t0 := obj_cell ht22 0
        have t1 := obj_cell ht22 1
        simp at v0 v1 v2 v3 v4 v5 v6 u0 u1 t0 t1
        clear hs22 hx22 ht22
        go_wp2_with fail
        with_reducible refine Calls.mono (S3.out _ K2.out.a.idx.1) ?_
        rintro e y23 ⟨rfl, by23⟩
        have K3 := Lib.hid (K2.out.below by23)
        clear by23 v0 v1 v2 v3 v4 v5 v6 u0 u1 t0 t1
        have hs23 := K3.out.a.sec
        have hx23 := K3.out.a.ix
        have ht23 := K3.out.box
        have v0 := obj_cell hs23 0
        have v1 := obj_cell hs23 1
        have v2 := obj_cell hs23 2
        have v3 := obj_cell hs23 3
        have v4 := obj_cell hs23 4
        have v5 := obj_cell hs23 5
        have v6 := obj_cell hs23 6
        have u0 := obj_cell hx23 0
        have u1 := obj_cell hx23 1
        have t0 := obj_cell ht23 0
        have t1 := obj_cell ht23 1
        simp at v0 v1 v2 v3 v4 v5 v6 u0 u1 t0 t1
        clear hs23 hx23 ht23
        go_wp2_with fail
        with_reducible refine Calls.mono (S4.out _ K3.out.a.idx.1) ?_
        rintro e y24 ⟨rfl, by24⟩
        have K4 := Lib.hid (K3.out.below by24)
        clear by24 v0 v1 v2 v3 v4 v5 v6 u0 u1 t0 t1
        have hs24 := K4.out.a.sec
        have hx24 := K4.out.a.ix
        have ht24 := K4.out.box
        have v0 := obj_cell hs24 0
        have v1 := obj_cell hs24 1
        have v2 := obj_cell hs24 2
        have v3 := obj_cell hs24 3
        have v4 := obj_cell hs24 4
        have v5 := obj_cell hs24 5
        have v6 := obj_cell hs24 6
        have u0 := obj_cell hx24 0
        have u1 := obj_cell hx24 1
        have t0 := obj_cell ht24 0
        have t1 := obj_cell ht24 1
        simp at v0 v1 v2 v3 v4 v5 v6 u0 u1 t0 t1
        clear hs24 hx24 ht24
        have HW12 := Lib.hid (HW1.out.grown K4.out.a.si.old HW1.out.size (by simp))
        generalize scaledI L a d = p1 at *
        generalize scaledI M a d = p2 at *
        generalize scaledI L a 450 = p3 at *
        generalize finalI L a = p4 at *
        clear S1 S2 S3 S4 HFIN HX8
        have r1 := HF1.out.1
        have r2 := HF1.out.2
        have r3 := HLE.out
        by_cases hlt : p3 < a
        · rw [if_pos hlt] at r2
          subst r2
          go_wp2_with (go_at_call 12; refine (HSN.out _).mono ?_; rintro e w6 ⟨rfl, b6⟩)
          go_ret
          exact ⟨rfl, HW12.out.trans (b6.mono HW12.out.size)⟩
        · rw [if_neg hlt] at r2
          subst r2
          have hle : a ≤ p4 := by omega
          go_wp2_with (go_at_call 12; refine (HSN.out _).mono ?_; rintro e w6 ⟨rfl, b6⟩)
          go_ret
          exact ⟨rfl, HW12.out.trans (b6.mono HW12.out.size)⟩

end Go.Proofs.Ythajkhonapjihab
