/- Where one side is missing just this position is named: for every tape. -/
import Derived.Test.YtdbpbmejgdbppaaCsQ
import Derived.Test.YtdbpbmejgdbppaaCsH
import Derived.Test.YtdbpbmejgdbppaaCsZ
set_option linter.unusedSimpArgs false
set_option linter.unusedVariables false
namespace Go.Proofs.Ytdbpbmejgdbppaa
open Go.RowKit Go.Lib Go.Proofs Go.Maps

set_option maxRecDepth 100000 in
set_option maxHeartbeats 16000000 in
theorem csnames_any (v : Value) (n : Nat) (w : World) (hi : IntsAt w v n w.heap.size) (hn : n ≤ 9223372036854775807) :
    Calls Try.prog 4 #[v] w fun e w' => e = .returned (.bool true) ∧ Below w.heap.size w w' := by
  have HNEW := Lib.hid (sNew_any v n w hi hn)
  have HSN := Lib.hid sane43_true
  clear hi hn
  go_enter Try.func4, Try.ntmps4
  go_wp2_with fail
  refine (HNEW.out).mono ?_
  rintro e w1 ⟨rfl, t1, b1⟩
  obtain ⟨tb, htb⟩ : ∃ tb, tb = w.heap.size := ⟨_, rfl⟩
  rw [← htb] at t1 ⊢
  have HLG := Lib.hid (agreed43_any tb 4 w1 t1 (by omega))
  have HFIN : Hid (∀ W, SI w1 tb W → Below w.heap.size w W) := Lib.hid fun W hW => b1.grown hW.old b1.size (fun q e => by injection e with e; omega)
  clear t1 b1 HNEW htb
  go_wp2_with fail
  refine (HLG.out).mono ?_
  rintro e w2 ⟨l, lv, rfl, hag, hok, hday, hlen, hl, hsi⟩
  obtain ⟨av, cv, rfl, hcap, -⟩ := PstsAt.open hl
  obtain ⟨nl, hnl⟩ : ∃ k, k = l.length := ⟨_, rfl⟩
  have HNL := Lib.hid hnl
  rw [← hnl]
  rw [← hnl] at hl hcap hlen
  have HAG := Lib.hid hag
  have HOK := Lib.hid hok
  have HDAY := Lib.hid hday
  obtain ⟨bL, hbL⟩ : ∃ x, x = w2.heap.size := ⟨_, rfl⟩
  obtain ⟨w3, hw3⟩ : ∃ w3, w3 = w2.alloc (.cells #[.slice av nl cv] 27) := ⟨_, rfl⟩
  have HX3 : Hid (w3.heap[bL]? = some (.cells #[.slice av nl cv] 27 (0, 0))) := Lib.hid (by rw [hw3, hbL]; exact heap_alloc_new _ _)
  have HS3 : Hid (SI w1 tb w3) := Lib.hid (by rw [hw3]; exact hsi.alloc _)
  have HL3 : Hid (PstsAt w3 (.slice av nl cv) l) := Lib.hid (by rw [hw3]; exact ListAt.below hl (below_alloc _ _))
  have hbt : bL ≠ tb := by have := hsi.src.lt; omega
  have HW3 := Lib.hid hw3
  have HBL := Lib.hid hbL
  clear hw3 hl hsi hnl hbL HLG hag hok hday
  go_upto_region 3 with fail
  rw [← HW3.out, ← HBL.out]
  clear HW3
  go_wp2_with fail
  with_reducible refine Calls.mono (pick_in _ [1, 15, 60] _ _ rfl HS3.out (by simp) (by simp) _ rfl _ (by simp)) ?_
  rintro e w4 ⟨a, rfl, ha, hi4, hg4⟩
  have ha2 : 1 ≤ a ∧ a ≤ 1000000000000 := (by decide : ∀ x ∈ ([1, 15, 60] : List Int), 1 ≤ x ∧ x ≤ 1000000000000) a ha
  have HS4 := Lib.hid hi4
  have HX4 := Lib.hid (obj_turn (obj_below HX3.out (below_alloc _ _)) hg4 hbt)
  have HL4 := Lib.hid (PstsAt.turn (HL3.out.below (below_alloc _ _)) (HS3.out.alloc _).src hg4)
  clear ha hi4 hg4 HX3 HS3 HL3
  obtain ⟨N1, hN1⟩ : ∃ q : Int, q = (nl : Int) + 1 := ⟨_, rfl⟩
  have hwn1 : IntKind.i64.wrap ((nl : Int) + 1) = N1 := by rw [hN1]; exact IntWalk.i64_in _ (by omega)
  obtain ⟨bX, hbX⟩ : ∃ q, q = w4.heap.size := ⟨_, rfl⟩
  obtain ⟨w5, hw5⟩ : ∃ W, W = w4.alloc (.cells #[.int .i64 N1, .int .i64 60, .int .i64 2, .int .i64 140, .int .i64 110, .int .i64 a, .int .i64 3, .int .i64 2] 41) := ⟨_, rfl⟩
  have HX5 : Hid (w5.heap[bX]? = some (.cells #[.int .i64 N1, .int .i64 60, .int .i64 2, .int .i64 140, .int .i64 110, .int .i64 a, .int .i64 3, .int .i64 2] 41 (0, 0))) := Lib.hid (by rw [hw5, hbX]; exact heap_alloc_new _ _)
  have HB5 : Hid (w5.heap[bL]? = some (.cells #[.slice av nl cv] 27 (0, 0))) := Lib.hid (by rw [hw5]; exact obj_below HX4.out (below_alloc _ _))
  have HS5 : Hid (SI w1 tb w5) := Lib.hid (by rw [hw5]; exact HS4.out.alloc _)
  have HL5 : Hid (PstsAt w5 (.slice av nl cv) l) := Lib.hid (by rw [hw5]; exact HL4.out.below (below_alloc _ _))
  have hpk : PstOk (⟨N1, 60, 2, 140, 110, a, 3, 2⟩ : Pst) := ⟨by simp only; omega, by simp, by simp, by simp, by simp, by simp, ha2, by simp, by simp, by simp⟩
  obtain ⟨m, hm⟩ : ∃ q, q = l ++ [(⟨N1, 60, 2, 140, 110, a, 3, 2⟩ : Pst)] := ⟨_, rfl⟩
  obtain ⟨n1, hn1⟩ : ∃ q : Nat, q = nl + 1 := ⟨_, rfl⟩
  have hday60 : (lastP l).day ≤ 60 := by have := HDAY.out; omega
  have HOKM : Hid (LdgOk m) := Lib.hid (by rw [hm]; exact HOK.out.snoc (by rw [← HNL.out]; omega) hpk (by rw [← HNL.out]; exact hN1) hday60)
  have HDM : Hid (difL 60 m (eachQ [1, 2, 3] (refsM m)) = [⟨1, 2, 3, 2, a⟩]) := Lib.hid (by rw [hm]; exact HAG.out.names a N1 (by omega))
  have HPO : Hid (Calls Try.prog 18 #[.agg #[.slice av nl cv], .agg #[.int .i64 N1, .int .i64 60, .int .i64 2, .int .i64 140, .int .i64 110, .int .i64 a, .int .i64 3, .int .i64 2]] w5 fun e w' => ∃ aX cX, e = .returned (.tuple #[.agg #[.slice aX n1 cX], .int .i64 0]) ∧ PstsAt w' (.slice aX n1 cX) m ∧ Below w5.heap.size w5 w') := Lib.hid (by
    refine (rgPost_right (p := (⟨N1, 60, 2, 140, 110, a, 3, 2⟩ : Pst)) HOK.out (by rw [← HNL.out]; omega) hpk (by rw [← HNL.out]; exact hN1) hday60 (.slice av nl cv) w5 HL5.out).mono ?_
    rintro e w' ⟨u, h5, h6, h7⟩
    obtain ⟨aX, cX, rfl, -, -⟩ := owns_gen h6
    rw [← HNL.out, ← hn1] at h5 h6
    exact ⟨aX, cX, h5, by rw [hm]; exact ListAt.owns (base := w5.heap.size) (e := 41) (by rw [List.length_append, List.length_singleton, ← HNL.out, ← hn1]; exact h6), h7⟩)
  have HW5 := Lib.hid hw5
  have HBX := Lib.hid hbX
  have hb4 := HX4.out
  have s0 := obj_cell hb4 0
  simp at s0
  clear hw5 hbX hb4 hN1 hpk hm hn1 HL4 HX4 HS4 HAG hday60
  go_upto_region 5 with fail
  rw [← HW5.out, ← HBX.out]
  have hb5 := HB5.out
  have hx5 := HX5.out
  clear s0
  have s0 := obj_cell hb5 0
  simp at s0
  have c0 := obj_cell hx5 0
  have c1 := obj_cell hx5 1
  have c2 := obj_cell hx5 2
  have c3 := obj_cell hx5 3
  have c4 := obj_cell hx5 4
  have c5 := obj_cell hx5 5
  have c6 := obj_cell hx5 6
  have c7 := obj_cell hx5 7
  simp at c0 c1 c2 c3 c4 c5 c6 c7
  clear hb5 hx5
  go_wp2_with fail
  refine (HPO.out).mono ?_
  rintro e w6 ⟨aX, cX, rfl, hl6, hb6⟩
  have HB6 := Lib.hid ((HFIN.out _ HS5.out).trans (hb6.mono (HFIN.out _ HS5.out).size))
  obtain ⟨bM, hbM⟩ : ∃ q, q = w6.heap.size := ⟨_, rfl⟩
  obtain ⟨w7, hw7⟩ : ∃ W, W = w6.alloc (.cells #[.slice aX n1 cX] 27) := ⟨_, rfl⟩
  have HM7 : Hid (w7.heap[bM]? = some (.cells #[.slice aX n1 cX] 27 (0, 0))) := Lib.hid (by rw [hw7, hbM]; exact heap_alloc_new _ _)
  have HL7 : Hid (PstsAt w7 (.slice aX n1 cX) m) := Lib.hid (by rw [hw7]; exact hl6.below (below_alloc _ _))
  have HB7 : Hid (Below w.heap.size w w7) := Lib.hid (by rw [hw7]; exact HB6.out.alloc HB6.out.size _)
  have HW7 := Lib.hid hw7
  have HBM := Lib.hid hbM
  clear hl6 hb6 hw7 hbM c0 c1 c2 c3 c4 c5 c6 c7 s0 HPO HS5 HX5 HB5 HL5 HFIN
  go_upto_region 6 with fail
  rw [← HW7.out, ← HBM.out]
  obtain ⟨bg, hbg⟩ : ∃ b, b = w7.heap.size := ⟨_, rfl⟩
  obtain ⟨w8, hw8⟩ : ∃ W, W = w7.alloc (.cells #[.int .i64 1, .int .i64 2, .int .i64 3] 3) := ⟨_, rfl⟩
  have HB8 : Hid (Below w.heap.size w w8) := Lib.hid (by rw [hw8]; exact HB7.out.alloc HB7.out.size _)
  have HL8 : Hid (PstsAt w8 (.slice aX n1 cX) m) := Lib.hid (by rw [hw8]; exact HL7.out.below (below_alloc _ _))
  have HG8 : Hid (ListAt intC 1 w8 (.slice (some ⟨bg, 0, none⟩) 3 3) [1, 2, 3]) := Lib.hid (by rw [hw8, hbg]; exact list_newC intF w7 ([1, 2, 3] : List Int) 3)
  have HEX := Lib.hid (csExplain_right HOKM.out (g := [1, 2, 3]) ⟨by decide, by decide, by decide, by decide⟩ 60 ⟨by decide, by decide⟩ (.slice aX n1 cX) (.slice (some ⟨bg, 0, none⟩) 3 3) w8 HL8.out HG8.out)
  unfold ExPost at HEX
  rw [HDM.out] at HEX
  have HW8 := Lib.hid hw8
  have HBG := Lib.hid hbg
  have s0 := obj_cell HM7.out 0
  simp at s0
  clear hw8 hbg
  go_wp2_with fail
  rw [← HW8.out, ← HBG.out]
  refine (HEX.out).mono ?_
  rintro e w9 ⟨vd, rfl, hown, hb9⟩
  have HB9 := Lib.hid (HB8.out.trans (hb9.mono HB8.out.size))
  have HD9 : Hid (ListAt difC 5 w9 vd [⟨1, 2, 3, 2, a⟩]) := Lib.hid (ListAt.owns hown)
  obtain ⟨bD, hbD⟩ : ∃ b, b = w9.heap.size := ⟨_, rfl⟩
  obtain ⟨w10, hw10⟩ : ∃ W, W = w9.alloc (.cells #[.int .i64 1, .int .i64 2, .int .i64 3, .int .i64 2, .int .i64 a] 35) := ⟨_, rfl⟩
  have HB10 : Hid (Below w.heap.size w w10) := Lib.hid (by rw [hw10]; exact HB9.out.alloc HB9.out.size _)
  have HD10 : Hid (ListAt difC 5 w10 vd [⟨1, 2, 3, 2, a⟩]) := Lib.hid (by rw [hw10]; exact HD9.out.below (below_alloc _ _))
  have HE10 : Hid (ListAt difC 5 w10 (.slice (some ⟨bD, 0, none⟩) 1 1) [⟨1, 2, 3, 2, a⟩]) := Lib.hid (by rw [hw10, hbD]; exact list_newC difF w9 ([⟨1, 2, 3, 2, a⟩] : List Dif) 35)
  have HW10 := Lib.hid hw10
  have HBD := Lib.hid hbD
  clear hw10 hbD hown hb9 s0 HEX HM7 HL8 HG8 HL7
  go_wp2_with fail
  rw [← HW10.out, ← HBD.out]
  refine (cgDifferences_same [⟨1, 2, 3, 2, a⟩] _ _ _ (by simp) HD10.out HE10.out).mono ?_
  rintro e w11 ⟨rfl, hb11⟩
  have HB11 := Lib.hid (HB10.out.trans (hb11.mono HB10.out.size))
  clear hb11
  go_wp2_with fail
  refine (HSN.out _).mono ?_
  rintro e w12 ⟨rfl, hb12⟩
  have HB12 := Lib.hid (HB11.out.trans (hb12.mono HB11.out.size))
  clear hb12
  go_wp2
  go_ret
  exact ⟨rfl, HB12.out⟩

end Go.Proofs.Ytdbpbmejgdbppaa
