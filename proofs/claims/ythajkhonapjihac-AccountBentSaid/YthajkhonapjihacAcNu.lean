/- Numbers of entries: an entry with another number, or an earlier day, is refused; entries that were posted stay: for every tape. -/
import Derived.Test.YthajkhonapjihacAcSn
import Derived.Test.YthajkhonapjihacAcQ
import Derived.IntWalk
set_option linter.unusedSimpArgs false
set_option linter.unusedVariables false
namespace Go.Proofs.Ythajkhonapjihac
open Go.RowKit Go.Lib Go.Proofs

theorem ents_prefix {w : World} {ao : Option Addr} {n k cap : Nat} {l m : List Ent} (h : EntsAt w (.slice ao n cap) (l ++ m)) (hk : k = l.length) : EntsAt w (.slice ao k cap) l := by
  subst hk
  obtain ⟨h1, ao', cap', h2, h3, h4⟩ := h
  injection h2 with e1 e2 e3
  subst e1 e3
  refine ⟨cellsN_len l, ao, cap, rfl, by simp at h3; omega, ?_⟩
  rcases h4 with h4 | ⟨b, o, e, hb, hc⟩
  · left; simp at h4; simp [h4.1]
  · right
    refine ⟨b, o, e, hb, fun j hj => ?_⟩
    have hj2 : j < (l ++ m).length * 6 := by simp [Nat.add_mul]; omega
    rw [hc j hj2, cellsN_app, List.getElem?_append_left (by rw [cellsN_len]; exact hj)]

set_option maxRecDepth 100000 in
set_option maxHeartbeats 32000000 in
theorem acnumbers_any (v : Value) (n : Nat) (w : World) (hi : IntsAt w v n w.heap.size) (hn : n ≤ 9223372036854775807) :
    Calls Try.prog 6 #[v] w fun e w' => e = .returned (.bool true) ∧ Below w.heap.size w w' := by
  have HNEW := Lib.hid (sNew_any v n w hi hn)
  have HSN := Lib.hid sane23_true
  clear hi hn
  go_enter Try.func6, Try.ntmps6
  go_wp2_with fail
  refine (HNEW.out).mono ?_
  rintro e w1 ⟨rfl, t1, b1⟩
  obtain ⟨tb, htb⟩ : ∃ tb, tb = w.heap.size := ⟨_, rfl⟩
  rw [← htb] at t1 ⊢
  have HACC : Hid (Calls Try.prog 17 #[.pointer (some ⟨tb, 0, none⟩), .int .i64 10] w1 (AccPost tb 10 w1)) := Lib.hid (sAccount_any tb 10 w1 t1 (by decide))
  have HW1 := Lib.hid b1
  have HTB := Lib.hid htb
  clear t1 b1 HNEW htb
  go_wp2_with fail
  refine (HACC.out).mono ?_
  rintro e w2 ⟨a, su, en, rfl, hmd, hs, he, hsi, hcr⟩
  obtain ⟨s, hsl⟩ : ∃ s, s = a.subs.length := ⟨_, rfl⟩
  obtain ⟨m, hml⟩ : ∃ m, m = a.ents.length := ⟨_, rfl⟩
  obtain ⟨cr, hcrl⟩ : ∃ cr, cr = a.credit := ⟨_, rfl⟩
  obtain ⟨aS, cS, rfl, -, -⟩ := hs.shape
  obtain ⟨aE, cE, rfl, -, -⟩ := he.shape
  rw [← hsl] at hs
  rw [← hml] at he
  rw [← hsl, ← hml, ← hcrl]
  have HB2 := Lib.hid ((HW1.out).grown hsi.old HW1.out.size (fun q e => by injection e with e; rw [← e, ← HTB.out]; exact Nat.le_refl _))
  have HS3 : Hid (SI (w2.alloc (.cells #[.int .i64 cr, .slice aS s cS, .slice aE m cE] 28)) tb (w2.alloc (.cells #[.int .i64 cr, .slice aS s cS, .slice aE m cE] 28))) := Lib.hid (si_start (hsi.src.below (below_alloc _ _)))
  have HSU : Hid (SubsAt (w2.alloc (.cells #[.int .i64 cr, .slice aS s cS, .slice aE m cE] 28)) (.slice aS s cS) a.subs) := Lib.hid (hs.below (below_alloc _ _))
  have HEN : Hid (EntsAt (w2.alloc (.cells #[.int .i64 cr, .slice aS s cS, .slice aE m cE] 28)) (.slice aE m cE) a.ents) := Lib.hid (he.below (below_alloc _ _))
  have HBX : Hid ((w2.alloc (.cells #[.int .i64 cr, .slice aS s cS, .slice aE m cE] 28)).heap[w2.heap.size]? = some (.cells #[.int .i64 cr, .slice aS s cS, .slice aE m cE] 28 (0, 0))) := Lib.hid (heap_alloc_new _ _)
  have HB3 := Lib.hid (HB2.out.alloc HB2.out.size (.cells #[.int .i64 cr, .slice aS s cS, .slice aE m cE] 28))
  have HMD := Lib.hid hmd
  have hz := checkM_zero.1 hmd.right
  have hnum := right_number hmd.right
  have HSL := Lib.hid hsl
  have HML := Lib.hid hml
  have HCR := Lib.hid hcrl
  have HNB : Hid ((lastE a.ents).number = m) := Lib.hid (by rw [hnum, hml])
  have hm10 : m ≤ 10 := by rw [hml]; exact hmd.len
  have hs20 : s ≤ 20 := by rw [hsl]; exact hz.1
  have hne : w2.heap.size ≠ tb := by have := hsi.src.lt; omega
  clear hs he hsi hmd hcr hz hnum hsl hml hcrl HACC HB2
  go_upto_region 3 with fail
  generalize w2.heap.size = bA at *
  obtain ⟨w3, hw3⟩ : ∃ w3, w3 = w2.alloc (.cells #[.int .i64 cr, .slice aS s cS, .slice aE m cE] 28) := ⟨_, rfl⟩
  rw [← hw3] at HS3 HSU HEN HBX HB3 ⊢
  clear hw3
  obtain ⟨I, hI⟩ : ∃ I, I = SI w3 tb := ⟨_, rfl⟩
  have HIS : Hid (∀ W, I W → SI w3 tb W) := Lib.hid fun W hW => by rw [hI] at hW; exact hW
  have HSI : Hid (∀ W, SI w3 tb W → I W) := Lib.hid fun W hW => by rw [hI]; exact hW
  have HI3 : Hid (I w3) := Lib.hid (HSI.out _ HS3.out)
  have HDR : Hid (∀ W, I W → I W.drew) := Lib.hid fun W hW => HSI.out _ (HIS.out W hW).drew
  have HAL : Hid (∀ W o, I W → I (W.alloc o)) := Lib.hid fun W o hW => HSI.out _ ((HIS.out W hW).alloc o)
  have HTS : Hid (∀ W, I W → w3.heap.size ≤ W.heap.size) := Lib.hid fun W hW => (HIS.out W hW).old.size
  have HBA : Hid (bA < w3.heap.size ∧ tb < w3.heap.size) := Lib.hid ⟨obj_lt HBX.out, HS3.out.lt⟩
  have HSW : Hid (∀ W, I W → SubsAt W (.slice aS s cS) a.subs) := Lib.hid fun W hW => HSU.out.turn HS3.out.src (HIS.out W hW).old
  have HEW : Hid (∀ W, I W → EntsAt W (.slice aE m cE) a.ents) := Lib.hid fun W hW => HEN.out.turn HS3.out.src (HIS.out W hW).old
  have HBW : Hid (∀ W, I W → W.heap[bA]? = some (.cells #[.int .i64 cr, .slice aS s cS, .slice aE m cE] 28 (0, 0))) := Lib.hid fun W hW => obj_turn HBX.out (HIS.out W hW).old hne
  have HCL : Hid (∀ W, I W → ∀ i, W.cell? ⟨bA, i, none⟩ = #[.int .i64 cr, .slice aS s cS, .slice aE m cE][i]?) := Lib.hid fun W hW i => obj_cell (HBW.out W hW) i
  have HP6 : Hid (∀ (V : World) (bx : Nat) (v0 v1 v2 v3 v4 v5 : Value), I V → w3.heap.size ≤ bx → I (put6 V bx v0 v1 v2 v3 v4 v5)) := Lib.hid fun V bx v0 v1 v2 v3 v4 v5 hV hx => HSI.out _ ((HIS.out V hV).grown (put6_grown V bx v0 v1 v2 v3 v4 v5) (fun q e => by injection e with e; omega))
  have HST : Hid (∀ (V : World) (bx : Nat) (v0 v1 v2 v3 v4 v5 : Value), I V → w3.heap.size ≤ bx → ∀ i, ((((((V.setCell ⟨bx, 0, none⟩ v0).setCell ⟨bx, 1, none⟩ v1).setCell ⟨bx, 2, none⟩ v2).setCell ⟨bx, 3, none⟩ v3).setCell ⟨bx, 4, none⟩ v4).setCell ⟨bx, 5, none⟩ v5).cell? ⟨bA, i, none⟩ = #[.int .i64 cr, .slice aS s cS, .slice aE m cE][i]?) := Lib.hid fun V bx v0 v1 v2 v3 v4 v5 hV hx => HCL.out _ (HP6.out V bx v0 v1 v2 v3 v4 v5 hV hx)
  clear hI hne HBX HSU HEN
  go_cut [5] (fun p wx => ∃ (bE : Nat) (r : Int), p = .pointer (some ⟨bE, 0, none⟩) ∧ 0 ≤ r ∧ r < 99 ∧ Hid (I wx) ∧ Hid (wx.heap[bE]? = some (.cells #[.int .i64 ((m : Int) + 1), .int .i64 30, .int .i64 0, .int .i64 2, .int .i64 (1 + r), .int .i64 0] 35 (0, 0))))
  case first =>
    have HNN : Hid (∀ W, I W → Calls Try.prog 10 #[.pointer (some ⟨tb, 0, none⟩), .int .i64 99] W fun e w' => ∃ r : Int, e = .returned (.int .i64 r) ∧ (0 ≤ r ∧ r < 99) ∧ I w' ∧ Keep tb W w') := Lib.hid fun W hW =>
      (n_in (HIS.out W hW) 99 (by omega) (by omega)).mono fun e w' ⟨r, h1, h2, h3, h4, h5⟩ => ⟨r, h1, ⟨h2, h3⟩, HSI.out _ h4, keep_turn h5⟩
    have HNX : Hid (∀ r W, I W → Calls Try.prog 11 #[.agg #[.int .i64 cr, .slice aS s cS, .slice aE m cE], .int .i64 30, .int .i64 0, .int .i64 2, .int .i64 (1 + r), .int .i64 0] W fun e w' => e = .returned (.agg #[.int .i64 ((m : Int) + 1), .int .i64 30, .int .i64 0, .int .i64 2, .int .i64 (1 + r), .int .i64 0]) ∧ I w' ∧ Keep tb W w') := Lib.hid fun r W hW => by
      have h := acNext_any a.ents cr (.slice aS s cS) (.slice aE m cE) 30 0 2 (1 + r) 0 W (HEW.out W hW) (by rw [← HML.out]; omega) (by rw [HNB.out]; omega) (by rw [HNB.out]; omega)
      refine h.mono fun e w' h => ⟨?_, HSI.out _ ((HIS.out W hW).below h.2), keep_below h.2⟩
      rw [h.1]
      unfold nextM
      rw [HNB.out]
      rfl
    have hnew := HI3.out
    have hcs := HCL.out _ hnew
    go_region_held3 (fun W => ∀ i, W.cell? ⟨bA, i, none⟩ = #[.int .i64 cr, .slice aS s cS, .slice aE m cE][i]?)
      (first | with_reducible assumption | ((with_reducible refine HST.out _ _ _ _ _ _ _ _ hinv8 ?_); first | (have := HTS.out _ hinv7; omega) | (have := HTS.out _ hnew; omega)) | exact HCL.out _ (by with_reducible assumption) | exact HCL.out _ (HDR.out _ (by with_reducible assumption)) | exact HCL.out _ (HAL.out _ _ (by with_reducible assumption)) | exact HCL.out _ (HAL.out _ _ (HDR.out _ (by with_reducible assumption))) | exact HCL.out _ (HDR.out _ (HAL.out _ _ (by with_reducible assumption))) | exact HCL.out _ (HDR.out _ (HDR.out _ (HAL.out _ _ (by with_reducible assumption)))))
      (first
        | (go_at_call 10; (with_reducible refine Calls.mono (HNN.out _ (by repeat (first | with_reducible assumption | with_reducible refine HAL.out _ _ ?_ | with_reducible refine HDR.out _ ?_))) ?_); rintro e w7 ⟨r, rfl, hr, hinv7, hk7⟩
           have hwr : IntKind.i64.wrap (1 + r) = 1 + r := IntWalk.i64_in _ (by omega))
        | (go_at_call 11; (try rw [hwr]); (with_reducible refine Calls.mono (HNX.out _ _ (by repeat (first | with_reducible assumption | with_reducible refine HAL.out _ _ ?_ | with_reducible refine HDR.out _ ?_))) ?_); rintro e w8 ⟨rfl, hinv8, hk8⟩
           (try (have q8 : w8.heap[w3.heap.size]? = some (.cells #[.int .i64 0, .int .i64 0, .int .i64 0, .int .i64 0, .int .i64 0, .int .i64 0] 35 (0, 0)) := hk8 _ _ (by have := HBA.out; omega) (hk7 _ _ (by have := HBA.out; omega) (heap_alloc_new w3 (.cells #[.int .i64 0, .int .i64 0, .int .i64 0, .int .i64 0, .int .i64 0, .int .i64 0] 35)))
                 have HX8 : Hid (∃ V, I V ∧ V.heap.size ≤ w3.heap.size) := Lib.hid ⟨w3, hnew, Nat.le_refl _⟩))
           (try (have q8 : w8.heap[w7.heap.size]? = some (.cells #[.int .i64 0, .int .i64 0, .int .i64 0, .int .i64 0, .int .i64 0, .int .i64 0] 35 (0, 0)) := hk8 _ _ (by have h1 := HBA.out; have h2 := HTS.out _ hinv7; omega) (heap_alloc_new w7 (.cells #[.int .i64 0, .int .i64 0, .int .i64 0, .int .i64 0, .int .i64 0, .int .i64 0] 35))
                 have HX8 : Hid (∃ V, I V ∧ V.heap.size ≤ w7.heap.size) := Lib.hid ⟨w7, hinv7, Nat.le_refl _⟩))
           (try (have Q8 := Lib.hid q8
                 have p0 := obj_cell q8 0
                 have p1 := obj_cell q8 1
                 have p2 := obj_cell q8 2
                 have p3 := obj_cell q8 3
                 have p4 := obj_cell q8 4
                 have p5 := obj_cell q8 5
                 have g0 := obj_free q8 0
                 have g1 := obj_free q8 1
                 have g2 := obj_free q8 2
                 have g3 := obj_free q8 3
                 have g4 := obj_free q8 4
                 have g5 := obj_free q8 5
                 simp at p0 p1 p2 p3 p4 p5
                 clear q8))))
    all_goals
      go_wp2
      go_meet
      first
        | (obtain ⟨V9, hv9, hl9⟩ := HX8.out; exact ⟨_, r, rfl, hr.1, hr.2, Lib.hid (HP6.out w8 _ _ _ _ _ _ _ hinv8 (by have := HTS.out _ hv9; omega)), Lib.hid (put6_at Q8.out rfl _ _ _ _ _ _)⟩)
        | exact ⟨_, r, rfl, hr.1, hr.2, Lib.hid (HAL.out _ _ hinv8), Lib.hid (heap_alloc_new _ _)⟩
  case rest =>
  obtain ⟨bE, r, rfl, r0, r1, HI4, HE4⟩ := hcut
  clear HST HP6 HI3
  have hpb : ∃ b, postM a (nextM a.ents 30 0 2 (1 + r) 0) = .ok b := post_in HMD.out (by omega) (by omega) (by decide) (by omega) (by omega) (by omega) (by decide) (by omega)
  obtain ⟨b, hb⟩ := hpb
  have hnx : nextM a.ents 30 0 2 (1 + r) 0 = ⟨(m : Int) + 1, 30, 0, 2, 1 + r, 0⟩ := by unfold nextM; rw [HNB.out]
  rw [hnx] at hb
  obtain ⟨-, hbr, hbe, hbc, -, hba⟩ := postM_right hb
  have HBS : Hid (b.subs.length = s) := Lib.hid ((len_of_ids (addM_ids hba)).trans HSL.out.symm)
  have HBL : Hid (b.ents.length = m + 1) := Lib.hid (by rw [hbe, HML.out]; simp)
  have HBE := Lib.hid hbe
  have hlast : lastE b.ents = ⟨(m : Int) + 1, 30, 0, 2, 1 + r, 0⟩ := by rw [hbe, lastE_snoc]
  have HP65 : Hid (postM b ⟨(m : Int) + 1, 30, 0, 2, 1 + r, 0⟩ = .error 65) := Lib.hid (post_fault hbr (by rw [HBL.out]; omega) (faultE_known (by rw [hlast]; simp only; omega)) (by decide))
  have HP8 : Hid (postM b ⟨(m : Int) + 1 + 1, 29, 0, 2, 1, 0⟩ = .error 8) := Lib.hid (post_fault hbr (by rw [HBL.out]; omega) (faultE_order (by rw [hlast]) (by rw [hlast]; simp only; omega)) (by decide))
  have HC1 : Hid (∀ W, I W → Calls Try.prog 12 #[.agg #[.int .i64 cr, .slice aS s cS, .slice aE m cE], .agg #[.int .i64 ((m : Int) + 1), .int .i64 30, .int .i64 0, .int .i64 2, .int .i64 (1 + r), .int .i64 0]] W fun e w' => ∃ (aU : Option Addr) (cU gV oV cV : Nat), e = .returned (.tuple #[.agg #[.int .i64 cr, .slice aU s cU, .slice (some ⟨gV, oV, none⟩) (m + 1) cV], .int .i64 0]) ∧ m + 1 ≤ cV ∧ SubsAt w' (.slice aU s cU) b.subs ∧ EntsAt w' (.slice (some ⟨gV, oV, none⟩) (m + 1) cV) b.ents ∧ Below W.heap.size W w') := Lib.hid fun W hW => by
    have h := acPost_any a ⟨(m : Int) + 1, 30, 0, 2, 1 + r, 0⟩ (.slice aS s cS) (.slice aE m cE) W (HSW.out W hW) (HEW.out W hW) (by rw [← HSL.out]; omega) (by rw [← HML.out]; omega)
    rw [hb, ← HCR.out] at h
    refine h.mono ?_
    rintro e w' ⟨su, en, h1, h2, h3, h4⟩
    obtain ⟨aU, cU, rfl, -, -⟩ := h2.shape
    obtain ⟨aV, cV, rfl, hcv, hav⟩ := h3.shape
    rw [HBS.out] at h1 h2
    rw [HBL.out] at h1 h3 hcv hav
    obtain ⟨gV, oV, rfl, -⟩ := hav (by omega)
    rw [hbc, ← HCR.out] at h1
    exact ⟨aU, cU, gV, oV, cV, h1, hcv, h2, h3, h4⟩
  have HBC : Hid (b.credit = cr) := Lib.hid (hbc.trans HCR.out.symm)
  clear hb hnx hbr hbe hbc hba hlast
  have hbx := HBW.out _ HI4.out
  have u0 := obj_cell hbx 0
  have u1 := obj_cell hbx 1
  have u2 := obj_cell hbx 2
  simp at u0 u1 u2
  have hex := HE4.out
  have e0 := obj_cell hex 0
  have e1 := obj_cell hex 1
  have e2 := obj_cell hex 2
  have e3 := obj_cell hex 3
  have e4 := obj_cell hex 4
  have e5 := obj_cell hex 5
  simp at e0 e1 e2 e3 e4 e5
  clear hbx hex
  go_wp2_with fail
  refine (HC1.out _ HI4.out).mono ?_
  rintro e w5 ⟨aU, cU, gV, oV, cV, rfl, hcv, hs5, he5, hb5⟩
  have HI6 : Hid (I (w5.alloc (.cells #[.int .i64 cr, .slice aU s cU, .slice (some ⟨gV, oV, none⟩) (m + 1) cV] 28))) := Lib.hid (HAL.out _ _ (HSI.out _ ((HIS.out _ HI4.out).below hb5)))
  have HE6 : Hid ((w5.alloc (.cells #[.int .i64 cr, .slice aU s cU, .slice (some ⟨gV, oV, none⟩) (m + 1) cV] 28)).heap[bE]? = some (.cells #[.int .i64 ((m : Int) + 1), .int .i64 30, .int .i64 0, .int .i64 2, .int .i64 (1 + r), .int .i64 0] 35 (0, 0))) := Lib.hid (obj_below (obj_below HE4.out hb5) (below_alloc _ _))
  have HX6 : Hid ((w5.alloc (.cells #[.int .i64 cr, .slice aU s cU, .slice (some ⟨gV, oV, none⟩) (m + 1) cV] 28)).heap[w5.heap.size]? = some (.cells #[.int .i64 cr, .slice aU s cU, .slice (some ⟨gV, oV, none⟩) (m + 1) cV] 28 (0, 0))) := Lib.hid (heap_alloc_new _ _)
  have HS6 : Hid (SubsAt (w5.alloc (.cells #[.int .i64 cr, .slice aU s cU, .slice (some ⟨gV, oV, none⟩) (m + 1) cV] 28)) (.slice aU s cU) b.subs) := Lib.hid (hs5.below (below_alloc _ _))
  have HN6 : Hid (EntsAt (w5.alloc (.cells #[.int .i64 cr, .slice aU s cU, .slice (some ⟨gV, oV, none⟩) (m + 1) cV] 28)) (.slice (some ⟨gV, oV, none⟩) (m + 1) cV) b.ents) := Lib.hid (he5.below (below_alloc _ _))
  clear hs5 he5 hb5 HC1 u0 u1 u2 e0 e1 e2 e3 e4 e5
  go_upto_region 5 with fail
  generalize w5.heap.size = bB at *
  generalize w5.alloc (.cells #[.int .i64 cr, .slice aU s cU, .slice (some ⟨gV, oV, none⟩) (m + 1) cV] 28) = w6 at *
  have HC65 : Hid (Calls Try.prog 12 #[.agg #[.int .i64 cr, .slice aU s cU, .slice (some ⟨gV, oV, none⟩) (m + 1) cV], .agg #[.int .i64 ((m : Int) + 1), .int .i64 30, .int .i64 0, .int .i64 2, .int .i64 (1 + r), .int .i64 0]] w6 fun e w' => e = .returned (.tuple #[.agg #[.int .i64 0, .slice none 0 0, .slice none 0 0], .int .i64 65]) ∧ Below w6.heap.size w6 w') := Lib.hid (by
    have h := acPost_any b ⟨(m : Int) + 1, 30, 0, 2, 1 + r, 0⟩ (.slice aU s cU) (.slice (some ⟨gV, oV, none⟩) (m + 1) cV) w6 HS6.out HN6.out (by rw [HBS.out]; omega) (by rw [HBL.out]; omega)
    rw [HP65.out, HBC.out] at h
    exact h)
  have hbx := HX6.out
  have u0 := obj_cell hbx 0
  have u1 := obj_cell hbx 1
  have u2 := obj_cell hbx 2
  simp at u0 u1 u2
  have hex := HE6.out
  have e0 := obj_cell hex 0
  have e1 := obj_cell hex 1
  have e2 := obj_cell hex 2
  have e3 := obj_cell hex 3
  have e4 := obj_cell hex 4
  have e5 := obj_cell hex 5
  simp at e0 e1 e2 e3 e4 e5
  clear hbx hex
  go_wp2_with fail
  refine (HC65.out).mono ?_
  rintro e w7 ⟨rfl, hb7⟩
  have HB78 := Lib.hid (hb7.alloc hb7.size (.cells #[.int .i64 0, .slice none 0 0, .slice none 0 0] 28))
  have HX8 : Hid ((w7.alloc (.cells #[.int .i64 0, .slice none 0 0, .slice none 0 0] 28)).heap[w7.heap.size]? = some (.cells #[.int .i64 0, .slice none 0 0, .slice none 0 0] 28 (0, 0))) := Lib.hid (heap_alloc_new _ _)
  clear hb7 HC65 u0 u1 u2 e0 e1 e2 e3 e4 e5
  go_upto_region 6 with fail
  generalize w7.heap.size = bT at *
  generalize w7.alloc (.cells #[.int .i64 0, .slice none 0 0, .slice none 0 0] 28) = w8 at *
  have HC8 : Hid (Calls Try.prog 12 #[.agg #[.int .i64 cr, .slice aU s cU, .slice (some ⟨gV, oV, none⟩) (m + 1) cV], .agg #[.int .i64 ((m : Int) + 1 + 1), .int .i64 29, .int .i64 0, .int .i64 2, .int .i64 1, .int .i64 0]] w8 fun e w' => e = .returned (.tuple #[.agg #[.int .i64 0, .slice none 0 0, .slice none 0 0], .int .i64 8]) ∧ Below w8.heap.size w8 w') := Lib.hid (by
    have h := acPost_any b ⟨(m : Int) + 1 + 1, 29, 0, 2, 1, 0⟩ (.slice aU s cU) (.slice (some ⟨gV, oV, none⟩) (m + 1) cV) w8 (HS6.out.below HB78.out) (HN6.out.below HB78.out) (by rw [HBS.out]; omega) (by rw [HBL.out]; omega)
    rw [HP8.out, HBC.out] at h
    exact h)
  have hbx := obj_below HX6.out HB78.out
  have u0 := obj_cell hbx 0
  have u1 := obj_cell hbx 1
  have u2 := obj_cell hbx 2
  simp at u0 u1 u2
  have hex := obj_below HE6.out HB78.out
  have e0 := obj_cell hex 0
  have e1 := obj_cell hex 1
  have e2 := obj_cell hex 2
  have e3 := obj_cell hex 3
  have e4 := obj_cell hex 4
  have e5 := obj_cell hex 5
  simp at e0 e1 e2 e3 e4 e5
  clear hbx hex
  go_wp2_with fail
  refine (HC8.out).mono ?_
  rintro e w9 ⟨rfl, hb9⟩
  have HB9 := Lib.hid ((HB78.out.trans (hb9.mono HB78.out.size)).alloc (HB78.out.trans (hb9.mono HB78.out.size)).size (.cells #[.int .i64 0, .slice none 0 0, .slice none 0 0] 28))
  have HT9 : Hid ((w9.alloc (.cells #[.int .i64 0, .slice none 0 0, .slice none 0 0] 28)).heap[bT]? = some (.cells #[.int .i64 0, .slice none 0 0, .slice none 0 0] 28 (0, 0))) := Lib.hid (obj_below (obj_below HX8.out hb9) (below_alloc _ _))
  have HR9 : Hid ((w9.alloc (.cells #[.int .i64 0, .slice none 0 0, .slice none 0 0] 28)).heap[w9.heap.size]? = some (.cells #[.int .i64 0, .slice none 0 0, .slice none 0 0] 28 (0, 0))) := Lib.hid (heap_alloc_new _ _)
  clear hb9 HC8 u0 u1 u2 e0 e1 e2 e3 e4 e5
  go_upto_region 7 with fail
  generalize w9.heap.size = bR at *
  generalize w9.alloc (.cells #[.int .i64 0, .slice none 0 0, .slice none 0 0] 28) = wz at *
  have HIZ : Hid (I wz) := Lib.hid (HSI.out _ ((HIS.out _ HI6.out).below HB9.out))
  have HOLD : Hid (∀ W, I W → Below w.heap.size w W) := Lib.hid fun W hW => HB3.out.grown (HIS.out W hW).old HB3.out.size (fun q e => by injection e with e; rw [← e, HTB.out]; exact Nat.le_refl _)
  have hbx := obj_below HX6.out HB9.out
  have hba := HBW.out _ HIZ.out
  have u2 := obj_cell hbx 2
  have v2 := obj_cell hba 2
  simp at u2 v2
  have hq1 : (((m + 1 : Nat) : Int) == (m : Int) + 1) = true := by rw [beq_iff_eq]; omega
  have hq2 : (((m + 1 : Nat) : Int) != (m : Int) + 1) = false := by rw [bne, hq1]; rfl
  have hq3 : ((m : Int) + 1 == (m : Int) + 1) = true := by rw [beq_iff_eq]
  go_upto_region 9 with fail
  obtain ⟨J, hJ⟩ : ∃ J, J = fun W : World => Below wz.heap.size wz W := ⟨_, rfl⟩
  have HJ : Hid (∀ W, J W → Below wz.heap.size wz W) := Lib.hid fun W hW => by rw [hJ] at hW; exact hW
  have HJI : Hid (∀ W, Below wz.heap.size wz W → J W) := Lib.hid fun W hW => by rw [hJ]; exact hW
  have HJ0 : Hid (J wz) := Lib.hid (HJI.out _ (Below.refl _ _))
  have HDJ : Hid (∀ W, J W → J W.drew) := Lib.hid fun W hW => HJI.out _ ((HJ.out W hW).drew)
  have HS : Hid (∀ W, J W → (∀ i, W.cell? ⟨bA, i, none⟩ = #[.int .i64 cr, .slice aS s cS, .slice aE m cE][i]?) ∧ (∀ i, W.cell? ⟨bB, i, none⟩ = #[.int .i64 cr, .slice aU s cU, .slice (some ⟨gV, oV, none⟩) (m + 1) cV][i]?) ∧ (∀ i, W.cell? ⟨bE, i, none⟩ = #[.int .i64 ((m : Int) + 1), .int .i64 30, .int .i64 0, .int .i64 2, .int .i64 (1 + r), .int .i64 0][i]?) ∧ (∀ i, W.cell? ⟨bT, i, none⟩ = #[.int .i64 0, .slice none 0 0, .slice none 0 0][i]?) ∧ (∀ i, W.cell? ⟨bR, i, none⟩ = #[.int .i64 0, .slice none 0 0, .slice none 0 0][i]?)) := Lib.hid fun W hW => by
    have h := HJ.out W hW
    exact ⟨fun i => obj_cell (obj_below (HBW.out _ HIZ.out) h) i, fun i => obj_cell (obj_below (obj_below HX6.out HB9.out) h) i, fun i => obj_cell (obj_below (obj_below HE6.out HB9.out) h) i, fun i => obj_cell (obj_below HT9.out h) i, fun i => obj_cell (obj_below HR9.out h) i⟩
  have HEN : Hid (∀ W, J W → Calls Try.prog 20 #[.slice (some ⟨gV, oV, none⟩) m cV, .slice aE m cE] W fun e w' => e = .returned (.bool true) ∧ J w') := Lib.hid fun W hW => by
    have h := HJ.out W hW
    have h1 : EntsAt W (.slice (some ⟨gV, oV, none⟩) m cV) a.ents := ents_prefix (n := m + 1) (m := [⟨(m : Int) + 1, 30, 0, 2, 1 + r, 0⟩]) (by rw [← HBE.out]; exact (HN6.out.below HB9.out).below h) HML.out
    have h2 := raEntries_any _ _ a.ents a.ents W h1 ((HEW.out _ HIZ.out).below h) (by rw [← HML.out]; omega) (by rw [← HML.out]; omega)
    rw [sameN_eq.2 rfl] at h2
    exact h2.mono fun e w' g => ⟨g.1, HJI.out _ (h.trans (g.2.mono h.size))⟩
  have HSA : Hid (∀ W, J W → Calls Try.prog 16 #[] W fun e w' => e = .returned (.bool true) ∧ J w') := Lib.hid fun W hW => by
    have h := HJ.out W hW
    exact (HSN.out W).mono fun e w' g => ⟨g.1, HJI.out _ (h.trans (g.2.mono h.size))⟩
  have HFIN : Hid (∀ W, J W → Below w.heap.size w W) := Lib.hid fun W hW => (HOLD.out _ HIZ.out).trans ((HJ.out W hW).mono (HOLD.out _ HIZ.out).size)
  have hw0 : IntKind.i64.wrap ((m : Int) + 1) = (m : Int) + 1 := IntWalk.i64_in _ (by omega)
  have hi0 : (0 : Int) ≤ (m : Int) := by omega
  have hi1 : (m : Int) ≤ (cV : Int) := by omega
  have hi2 : m ≤ cV := by omega
  clear hJ hbx hba u2 v2 HX6 HS6 HN6 HE6 HT9 HR9 HB9 HB78 HI6
  have hnew := HJ0.out
  have hcs := HS.out _ hnew
  go_region_held3 (fun W => (∀ i, W.cell? ⟨bA, i, none⟩ = #[.int .i64 cr, .slice aS s cS, .slice aE m cE][i]?) ∧ (∀ i, W.cell? ⟨bB, i, none⟩ = #[.int .i64 cr, .slice aU s cU, .slice (some ⟨gV, oV, none⟩) (m + 1) cV][i]?) ∧ (∀ i, W.cell? ⟨bE, i, none⟩ = #[.int .i64 ((m : Int) + 1), .int .i64 30, .int .i64 0, .int .i64 2, .int .i64 (1 + r), .int .i64 0][i]?) ∧ (∀ i, W.cell? ⟨bT, i, none⟩ = #[.int .i64 0, .slice none 0 0, .slice none 0 0][i]?) ∧ (∀ i, W.cell? ⟨bR, i, none⟩ = #[.int .i64 0, .slice none 0 0, .slice none 0 0][i]?))
    (first | exact HS.out _ (by with_reducible assumption) | exact HS.out _ (HDJ.out _ (by with_reducible assumption)) | exact HS.out _ (HDJ.out _ (HDJ.out _ (by with_reducible assumption))))
    (first
      | (go_at_call 20; (with_reducible refine Calls.mono (HEN.out _ (by first | with_reducible assumption | exact HDJ.out _ (by with_reducible assumption))) ?_); rintro e wy ⟨rfl, hinvy⟩)
      | (go_at_call 16; (with_reducible refine Calls.mono (HSA.out _ (by first | with_reducible assumption | exact HDJ.out _ (by with_reducible assumption))) ?_); rintro e wy2 ⟨rfl, hinvz⟩))
  go_wp2
  go_ret
  exact ⟨rfl, HFIN.out _ hinvz⟩

end Go.Proofs.Ythajkhonapjihac
