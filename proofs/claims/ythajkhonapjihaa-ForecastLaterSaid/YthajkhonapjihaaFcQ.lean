/- The walk of ForecastOrder: merging does not hang on the order of the lists; for every tape. -/
import Derived.Test.YthajkhonapjihaaFcO
set_option linter.unusedSimpArgs false
set_option linter.unusedVariables false
namespace Go.Proofs.Ythajkhonapjihaa
open Go.RowKit Go.Lib Go.Proofs

theorem balK_perm (o a : Int) {l k : List Flw} (h : l.Perm k) : ∀ n : Nat, balK o a l n = balK o a k n
  | 0 => rfl
  | n + 1 => by
    show balK o a l n + dayAmt (a + n) l = balK o a k n + dayAmt (a + n) k
    rw [balK_perm o a h n, dayAmt_perm _ h]
theorem projL_perm (o a : Int) {l k : List Flw} (h : l.Perm k) (n : Nat) : projL o a l n = projL o a k n := by
  apply List.ext_getElem (by simp [projL_len])
  intro i h1 h2
  rw [projL_get, projL_get, balK_perm o a h]
theorem ok_perm {D : Int} {l k : List Flw} (h : l.Perm k) (hk : FlwsOk D k) : FlwsOk D l := fun f hf => hk f (h.mem_iff.1 hf)

set_option maxRecDepth 100000 in
set_option maxHeartbeats 8000000 in
theorem fcorder_any (v : Value) (n : Nat) (w : World) (hi : IntsAt w v n w.heap.size) (hn : n ≤ 9223372036854775807) :
    Calls Try.prog 6 #[v] w fun e w' => e = .returned (.bool true) ∧ Below w.heap.size w w' := by
  have HNEW := Lib.hid (sNew_any v n w hi hn)
  have HSN := Lib.hid sane29_any
  clear hi hn
  go_enter Try.func6, Try.ntmps6
  go_wp2_with fail
  refine (HNEW.out).mono ?_
  rintro e w1 ⟨rfl, t1, b1⟩
  have HF := Lib.hid (sFlows_any w.heap.size 8 w1 t1 (by decide))
  have HW1 := Lib.hid b1
  clear t1 b1 HNEW
  go_wp2_with fail
  with_reducible refine Calls.mono (HF.out) ?_
  rintro e w2 ⟨va, A, rfl, hlA, hokA, hoA, hs2⟩
  have HF2 := Lib.hid (sFlows_any w.heap.size 8 w2 hs2.src (by decide))
  have HOA := Lib.hid hoA
  have HS2 := Lib.hid hs2
  have HKA := Lib.hid hokA
  clear hoA hs2 hokA HF
  go_wp2_with fail
  with_reducible refine Calls.mono (HF2.out) ?_
  rintro e w3 ⟨vb, B, rfl, hlB, hokB, hoB, hs3⟩
  have HW2 := Lib.hid (HW1.out.grown HS2.out.old HW1.out.size (by simp))
  have HW3 := Lib.hid (HW2.out.grown hs3.old HW2.out.size (by simp))
  have hoA3 := HOA.out.kept hs3.old (ownBlock_ne HOA.out w.heap.size HS2.out.lt)
  have HLA := Lib.hid (ListAt.owns hoA3)
  have HLB := Lib.hid (ListAt.owns hoB)
  have HKB := Lib.hid hokB
  obtain ⟨ao, ca, rfl, _⟩ := owns_gen hoA3
  obtain ⟨bo, cb, rfl, _⟩ := owns_gen hoB
  have HM1 := Lib.hid (fun (W : World) (hW : Below w3.heap.size w3 W) => fcMerge_ok (D := 29) (by decide) A B HKA.out HKB.out (by omega) (by omega) (.slice ao A.length ca) (.slice bo B.length cb) W.heap.size 2 (W.alloc (.cells #[.slice ao A.length ca, .slice bo B.length cb] 25)) (obj_cell (heap_alloc_new _ _) 0) (obj_cell (heap_alloc_new _ _) 1) (HLA.out.below (hW.alloc hW.size _)) (HLB.out.below (hW.alloc hW.size _)))
  have HM2 := Lib.hid (fun (W : World) (hW : Below w3.heap.size w3 W) => fcMerge_ok (D := 29) (by decide) B A HKB.out HKA.out (by omega) (by omega) (.slice bo B.length cb) (.slice ao A.length ca) W.heap.size 2 (W.alloc (.cells #[.slice bo B.length cb, .slice ao A.length ca] 25)) (obj_cell (heap_alloc_new _ _) 0) (obj_cell (heap_alloc_new _ _) 1) (HLB.out.below (hW.alloc hW.size _)) (HLA.out.below (hW.alloc hW.size _)))
  unfold MergePost at HM1 HM2
  have HOKX : Hid (∀ X : List Flw, X.Perm (A ++ B) → FlwsOk 29 X ∧ X.length = A.length + B.length) := Lib.hid fun X hX => ⟨ok_perm hX (fun f hf => by
    rcases List.mem_append.1 hf with h | h
    · exact HKA.out f h
    · exact HKB.out f h), by rw [hX.length_eq, List.length_append]⟩
  have HBA := Lib.hid (show (B ++ A).Perm (A ++ B) from List.perm_append_comm)
  generalize A ++ B = AB at *
  generalize B ++ A = BA at *
  obtain ⟨m, hm⟩ : ∃ m, m = A.length := ⟨_, rfl⟩
  obtain ⟨k, hk⟩ : ∃ k, k = B.length := ⟨_, rfl⟩
  rw [← hm] at HM1 HM2 HOKX hlA ⊢
  rw [← hk] at HM1 HM2 HOKX hlB ⊢
  have hmk : k + m = m + k := Nat.add_comm _ _
  rw [hmk] at HM2
  clear hoA3 hoB hs3 hokB hm hk HLA HLB HKA HKB HOA HS2 HF2 HW2 hmk
  go_wp2_with fail
  with_reducible refine Calls.mono (HM1.out _ (Below.refl _ _)) ?_
  rintro e w4 ⟨vx, rfl, X, hpX, hsX, hoX, b4⟩
  have HB4 := Lib.hid ((below_alloc w3 _).trans (b4.mono (below_alloc w3 _).size))
  have HPX := Lib.hid hpX
  have HSX := Lib.hid hsX
  have HOX := Lib.hid hoX
  clear hpX hsX hoX b4 HM1
  go_wp2_with fail
  with_reducible refine Calls.mono (HM2.out _ HB4.out) ?_
  rintro e w5 ⟨vy, rfl, Y, hpY, hsY, hoY, b5⟩
  have b5' := (below_alloc w4 _).trans (b5.mono (below_alloc w4 _).size)
  have HPY := Lib.hid (hpY.trans HBA.out)
  have HSY := Lib.hid hsY
  have HB5 := Lib.hid (HB4.out.trans (b5'.mono HB4.out.size))
  have hx := HOKX.out X HPX.out
  have hy := HOKX.out Y HPY.out
  have HXK := Lib.hid hx.2
  have HYK := Lib.hid hy.2
  have HLX := Lib.hid (ListAt.owns (by rw [hx.2]; exact ownsRow_below HOX.out b5'))
  have HLY := Lib.hid (ListAt.owns (by rw [hy.2]; exact hoY))
  obtain ⟨xo, cx, rfl, _⟩ := owns_gen HOX.out
  obtain ⟨yo, cy, rfl, _⟩ := owns_gen hoY
  have P1 := Lib.hid (fun W (hW : Below w5.heap.size w5 W) => fcProject_ok (D := 29) (by decide) hx.1 (by rw [hx.2]; omega) _ W (HLX.out.below hW) 0 0 31 32 (by decide) (by decide) (by decide) (by decide) (by decide) (by decide) (by decide) (by decide))
  have P2 := Lib.hid (fun W (hW : Below w5.heap.size w5 W) => fcProject_ok (D := 29) (by decide) hy.1 (by rw [hy.2]; omega) _ W (HLY.out.below hW) 0 0 31 32 (by decide) (by decide) (by decide) (by decide) (by decide) (by decide) (by decide) (by decide))
  unfold ProjPost at P1 P2
  have hPP := projL_perm 0 0 (HPX.out.trans HPY.out.symm) 32
  have hPL := projL_len 0 0 X 32
  rw [← hPP] at P2
  generalize projL 0 0 X 32 = PS at *
  have HPL := Lib.hid hPL
  have O1 := Lib.hid (fun W (hW : Below w5.heap.size w5 W) => ordered29_yes X HSX.out (by rw [hx.2]; omega) _ W (HLX.out.below hW))
  have O2 := Lib.hid (fun W (hW : Below w5.heap.size w5 W) => ordered29_yes Y HSY.out (by rw [hy.2]; omega) _ W (HLY.out.below hW))
  clear hpY hsY hoY b5 b5' hx hy hPP hPL HOX HM2 HB4 HPX HPY HSX HSY HOKX HBA HXK HYK HLX HLY
  go_wp2_with fail
  with_reducible refine Calls.mono (P1.out _ (Below.refl _ _)) ?_
  rintro e w6 ⟨vp, rfl, ho6, b6⟩
  have HO6 := Lib.hid ho6
  have HB6 := Lib.hid b6
  clear ho6 b6 P1
  go_wp2_with fail
  with_reducible refine Calls.mono (P2.out _ HB6.out) ?_
  rintro e w7 ⟨vq, rfl, ho7, b7⟩
  have HO7 := Lib.hid ho7
  have HO67 := Lib.hid (ownsRow_below HO6.out b7)
  have HB7 := Lib.hid (HB6.out.trans (b7.mono HB6.out.size))
  clear ho7 b7 P2 HO6 HB6
  have hww : Below w.heap.size w w7 := HW3.out.trans ((HB5.out.trans (HB7.out.mono HB5.out.size)).mono HW3.out.size)
  have HWW := Lib.hid hww
  clear hww
  go_wp2_with (first
    | (go_at_call 16
       first
       | (with_reducible refine Calls.mono (O1.out _ HB7.out) ?_
          rintro e w8 ⟨rfl, b8⟩
          have HB8 := Lib.hid (HB7.out.trans (b8.mono HB7.out.size))
          have HC8 := Lib.hid b8
          clear b8)
       | (with_reducible refine Calls.mono (O2.out _ HB8.out) ?_
          rintro e w9 ⟨rfl, b9⟩
          have HC9 := Lib.hid (HC8.out.trans (b9.mono HC8.out.size))
          clear b9))
    | (go_at_call 11
       with_reducible refine Calls.mono (r29Positions_same PS (by rw [HPL.out]; decide) vp vq w9 (ListAt.owns (by rw [HPL.out]; exact ownsRow_below HO67.out HC9.out)) (ListAt.owns (by rw [HPL.out]; exact ownsRow_below HO7.out HC9.out))) ?_
       rintro e w10 ⟨rfl, b10⟩
       have HC10 := Lib.hid (HC9.out.trans (b10.mono HC9.out.size))
       clear b10)
    | (go_at_call 12
       with_reducible refine Calls.mono (HSN.out w10) ?_
       rintro e w11 ⟨rfl, b11⟩
       have HC11 := Lib.hid (HC10.out.trans (b11.mono HC10.out.size))
       clear b11))
  go_ret
  exact ⟨rfl, HWW.out.trans (HC11.out.mono HWW.out.size)⟩

end Go.Proofs.Ythajkhonapjihaa
