/- The walk of ForecastSplits: a forecast of a span is that of its beginning, and, from the last position on, that of the rest; for every tape and number. -/
import Derived.Test.YthajkhonapjihaaFcX
import Derived.Test.YthajkhonapjihaaStepW
set_option linter.unusedSimpArgs false
set_option linter.unusedVariables false
namespace Go.Proofs.Ythajkhonapjihaa
open Go.RowKit Go.Lib Go.Proofs

theorem balK_add (o a : Int) (l : List Flw) (k : Nat) : ∀ j : Nat, balK (balK o a l k) (a + k) l j = balK o a l (k + j)
  | 0 => rfl
  | j + 1 => by
    have ih := balK_add o a l k j
    show balK (balK o a l k) (a + k) l j + dayAmt (a + k + j) l = balK o a l (k + j) + dayAmt (a + ((k + j : Nat) : Int)) l
    rw [ih, show a + (k : Int) + (j : Int) = a + ((k + j : Nat) : Int) by omega]
theorem projL_add (o a : Int) (l : List Flw) (k n : Nat) : projL o a l k ++ projL (balK o a l k) (a + k) l n = projL o a l (k + n) := by
  apply List.ext_getElem (by simp [projL_len])
  intro i h1 h2
  rw [projL_get]
  by_cases hi : i < k
  · rw [List.getElem_append_left (by rw [projL_len]; exact hi), projL_get]
  · rw [List.getElem_append_right (by rw [projL_len]; omega), projL_get]
    simp only [projL_len]
    rw [balK_add, show k + (i - k + 1) = i + 1 by omega, show a + (k : Int) + ((i - k : Nat) : Int) = a + (i : Int) by omega]

theorem own_news {w : World} {base g n cap size : Nat} {e : TypeId} {xs : List Value} (h : w.ownsRow base e size (.slice (some ⟨g, 0, none⟩) n cap) n xs) : ∀ j u, xs[j]? = some u → w.cell? ((⟨g, 0, none⟩ : Addr).add j) = some u := by
  intro j u hj
  have hl : j < n * size := by
    have := (List.getElem?_eq_some_iff.1 hj).1
    have := h.1
    omega
  have he : (⟨g, 0, none⟩ : Addr).add j = ⟨g, j, none⟩ := by unfold Addr.add; split <;> simp_all
  rw [he, h.cellAt j hl, hj]

set_option maxRecDepth 100000 in
set_option maxHeartbeats 8000000 in
theorem fcsplits_any (v : Value) (n : Nat) (x : Int) (w : World) (hi : IntsAt w v n w.heap.size) (hn : n ≤ 9223372036854775807) (x0 : 0 ≤ x) (x1 : x ≤ 255) :
    Calls Try.prog 3 #[v, .int .u8 x] w fun e w' => e = .returned (.bool true) ∧ Below w.heap.size w w' := by
  obtain ⟨i0, hi0, hz0, hz1, hz2⟩ := info_parts Try.infoPos
  have HNEW := Lib.hid (sNew_any v n w hi hn)
  have HSN := Lib.hid sane29_any
  obtain ⟨m, hm⟩ : ∃ m : Nat, x % 30 = m := ⟨(x % 30).toNat, by omega⟩
  have hm30 : m < 30 := by omega
  have hm0 : (0 : Int) ≤ (m : Int) := by omega
  have hm1 : (m : Int) < 30 := by omega
  clear hi hn
  go_enter Try.func3, Try.ntmps3
  go_wp2_with fail
  refine (HNEW.out).mono ?_
  rintro e w1 ⟨rfl, t1, b1⟩
  have HF := Lib.hid (sFlows_any w.heap.size 10 w1 t1 (by decide))
  have HW1 := Lib.hid b1
  clear t1 b1 HNEW
  go_wp2_with fail
  with_reducible refine Calls.mono (HF.out) ?_
  rintro e w2 ⟨lv, l, rfl, hl, hok, hown, hsi⟩
  have HRG := Lib.hid (range_in hsi (-100) 500 (by omega) (by omega) (by omega))
  have HSI := Lib.hid hsi
  have HO := Lib.hid hown
  have HOK := Lib.hid hok
  clear hown hsi hok HF
  go_wp2_with fail
  with_reducible refine Calls.mono (HRG.out) ?_
  rintro e w3 ⟨o, rfl, o0, o1, hi3, hg3⟩
  have hown3 := HO.out.kept hg3 (ownBlock_ne HO.out w.heap.size HSI.out.lt)
  have HLA := Lib.hid (ListAt.owns hown3)
  have HW3 := Lib.hid (HW1.out.grown hi3.old HW1.out.size (by simp))
  obtain ⟨bm, hbm⟩ : ∃ bm, bm = balK o 0 l (m + 1) := ⟨_, rfl⟩
  have HBM := Lib.hid hbm
  have hbin : -1000000000 ≤ bm ∧ bm ≤ 1000000000 := by
    have h1 := balK_in o 0 HOK.out (m + 1)
    rw [← hbm] at h1
    have h2 : 1000 * (l.length : Int) * ((m + 1 : Nat) : Int) ≤ 1000 * 10 * 30 := Int.mul_le_mul (by omega) (by omega) (by omega) (by omega)
    omega
  have P1 := Lib.hid (fun W (hW : Below w3.heap.size w3 W) => fcProject_ok (by decide) HOK.out (by omega) lv W (HLA.out.below hW) o 0 (m : Int) (m + 1) (by omega) (by omega) (by decide) (by omega) (by omega) (by omega) (by decide) (by omega))
  have P2 := Lib.hid (fun W (hW : Below w3.heap.size w3 W) => fcProject_ok (by decide) HOK.out (by omega) lv W (HLA.out.below hW) bm ((m : Int) + 1) 32 (32 - m) hbin.1 hbin.2 (by omega) (by decide) (by omega) (by omega) (by omega) (by decide))
  have P3 := Lib.hid (fun W (hW : Below w3.heap.size w3 W) => fcProject_ok (by decide) HOK.out (by omega) lv W (HLA.out.below hW) o 0 32 33 (by omega) (by omega) (by decide) (by decide) (by decide) (by decide) (by decide) (by decide))
  have HADD := Lib.hid (show projL o 0 l (m + 1) ++ projL bm ((m : Int) + 1) l (32 - m) = projL o 0 l 33 from by
    have h := projL_add o 0 l (m + 1) (32 - m)
    rw [← hbm, show (0 : Int) + ((m + 1 : Nat) : Int) = (m : Int) + 1 by omega, show m + 1 + (32 - m) = 33 by omega] at h
    exact h)
  have HLAST := Lib.hid (show (cellsL posC (projL o 0 l (m + 1)))[m * 2 + 1]? = some (.int .i64 bm) from by
    rw [cellsL_get posF (projL o 0 l (m + 1)) m 1 (by rw [projL_len]; omega) (by decide), projL_get, ← hbm]
    rfl)
  have HL1 := Lib.hid (show (cellsL posC (projL o 0 l (m + 1))).length = (m + 1) * 2 from by rw [cellsL_len posF, projL_len])
  have HL2 := Lib.hid (show (cellsL posC (projL bm ((m : Int) + 1) l (32 - m))).length = (32 - m) * 2 from by rw [cellsL_len posF, projL_len])
  have HC1 := Lib.hid (cellsL_one posF (projL o 0 l (m + 1)))
  have HC2 := Lib.hid (cellsL_one posF (projL bm ((m : Int) + 1) l (32 - m)))
  have HAPP := Lib.hid (cellsL_app posC (projL o 0 l (m + 1)) (projL bm ((m : Int) + 1) l (32 - m)))
  unfold ProjPost at P1 P2 P3
  generalize projL o 0 l (m + 1) = A at *
  generalize projL bm ((m : Int) + 1) l (32 - m) = BL at *
  have HCL : Hid ((projL o 0 l 33).length = 33) := Lib.hid (projL_len _ _ _ _)
  generalize projL o 0 l 33 = CL at *
  clear hown3 hbm hi3 hg3 HSI HRG HO hl
  go_wp2_with fail
  rw [hm]
  with_reducible refine Calls.mono (P1.out _ (Below.refl _ _)) ?_
  rintro e w4 ⟨va, rfl, ho4, b4⟩
  obtain ⟨ga, ca, rfl, hga, hca⟩ := owns_shape ho4 (by omega)
  have hcl := ho4.cellAt (m * 2 + 1) (by omega)
  rw [HLAST.out] at hcl
  have HO4 := Lib.hid ho4
  have HB4 := Lib.hid b4
  clear ho4 b4 P1 HLAST
  go_wp2_with fail
  with_reducible refine Calls.mono (P2.out _ HB4.out) ?_
  rintro e w5 ⟨vb, rfl, ho5, b5⟩
  have HO5 := Lib.hid ho5
  have HB5 := Lib.hid (HB4.out.trans (b5.mono HB4.out.size))
  have HO45 := Lib.hid (ownsRow_below HO4.out b5)
  clear ho5 b5 P2 HLA HO4
  go_wp2_with fail
  with_reducible refine Calls.mono (P3.out _ HB5.out) ?_
  rintro e w6 ⟨vc, rfl, ho6, b6⟩
  obtain ⟨gb, cb, rfl, hgb, hcb⟩ := owns_shape HO5.out (by omega)
  have HO6 := Lib.hid ho6
  have HB6 := Lib.hid (HB5.out.trans (b6.mono HB5.out.size))
  have HO46 := Lib.hid (ownsRow_below HO45.out b6)
  have HO56 := Lib.hid (ownsRow_below HO5.out b6)
  clear ho6 b6 P3 HO5 HO45
  have hn8 := own_news HO46.out
  have HNB := Lib.hid (own_news HO56.out)
  have hsz6 : w3.heap.size ≤ w6.heap.size := HB6.out.size
  have HN8 := Lib.hid hn8
  have HC6 := Lib.hid (HW3.out.trans (HB6.out.mono HW3.out.size))
  clear hn8 HO46 HB4 HB5 HBM HW3 HB6 hgb hga
  go_upto_region 9 with fail
  go_wp2_with (first
    | (at_builtin
       first
       | (refine wpList_freshW _ (by rfl) _ _ 28 (by rfl) w6.heap.size 33 i0 (.agg #[.int .i64 0, .int .i64 0]) 2 16 Try.underlying28 hi0 hz0 hz1 hz2 (by rfl) (by decide) (by rfl) (some ⟨ga, 0, none⟩) (m + 1) ca (cellsL posC A) (by rfl) HL1.out (Or.inr ⟨_, rfl, HN8.out⟩) HC1.out (by unfold maxLen; omega) (by omega) (Nat.le_refl _) ?_
          intro v8 w8 hown8 hgr8
          have hb8 : Below w6.heap.size w6 w8 := below_grownBy hgr8
          have HO8 := Lib.hid hown8
          have HB8 := Lib.hid hb8
          clear hown8 hgr8 hb8)
       | (refine wpList_ownW _ (by rfl) _ _ 28 (by rfl) w6.heap.size 33 i0 (.agg #[.int .i64 0, .int .i64 0]) 2 16 Try.underlying28 hi0 hz0 hz1 hz2 (by rfl) (by decide) v8 (m + 1) (cellsL posC A) (by rfl) HO8.out ⟨gb, 0, none⟩ (32 - m) cb (cellsL posC BL) (by rfl) HL2.out (own_news (ownsRow_below HO56.out HB8.out)) HC2.out (by unfold maxLen; omega) (by omega) HB8.out.size ?_
          intro v9 w9 hown9 hgr9
          have hb9 : Below w6.heap.size w6 w9 := HB8.out.trans ⟨hgr9.os, hgr9.tape, hgr9.output, hgr9.size, fun k hk => hgr9.block k (Nat.lt_of_lt_of_le hk HB8.out.size) (fun e => absurd (ownBlock_le HO8.out k e.symm) (by omega))⟩
          rw [show m + 1 + (32 - m) = 33 by omega, ← HAPP.out, HADD.out] at hown9
          have HO9 := Lib.hid hown9
          have HB9 := Lib.hid hb9
          clear hown9 hgr9 hb9))
    | (go_at_call 11
       with_reducible refine Calls.mono (r29Positions_same CL (by rw [HCL.out]; decide) v9 vc w9 (ListAt.owns (by rw [HCL.out]; exact HO9.out)) (ListAt.owns (by rw [HCL.out]; exact ownsRow_below HO6.out HB9.out))) ?_
       rintro e w10 ⟨rfl, b10⟩
       have HB10 := Lib.hid (HB9.out.trans (b10.mono HB9.out.size))
       clear b10)
    | (go_at_call 12
       with_reducible refine Calls.mono (HSN.out w10) ?_
       rintro e w11 ⟨rfl, b11⟩
       have HB11 := Lib.hid (HB10.out.trans (b11.mono HB10.out.size))
       clear b11))
  go_ret
  exact ⟨rfl, HC6.out.trans (HB11.out.mono HC6.out.size)⟩

end Go.Proofs.Ythajkhonapjihaa
