/- What is missing behind a sweep is what was missing before it, less what the main sub-account could give: for every tape. -/
import Derived.Test.YtoelidndnajedaaSwU
import Derived.Test.YtoelidndnajedaaAcL
set_option linter.unusedSimpArgs false
set_option linter.unusedVariables false
namespace Go.Proofs.Ytoelidndnajedaa
open Go.RowKit Go.Lib Go.Proofs

theorem givenL_take {l : List Ent} {j : Nat} (hj : j < l.length) : givenL (l.take (j + 1)) = givenL (l.take j) + (if (entAt l j).frm = 1 then (entAt l j).amount else 0) ∧ takenL (l.take (j + 1)) = takenL (l.take j) + (if (entAt l j).frm = 1 then 0 else (entAt l j).amount) := by
  rw [List.take_succ_eq_append_getElem hj, entAt_get hj]
  exact givenL_snoc _ _
theorem shortL_bound {l : List SubA} : ∀ {ks : List Kp}, (∀ k ∈ ks, k.low - balOf l k.sub ≤ 2000000000000) → 0 ≤ shortL l ks ∧ shortL l ks ≤ 2000000000000 * (ks.length : Int)
  | [], _ => by simp [shortL]
  | k :: ks, h => by
    have h1 := shortL_bound (ks := ks) fun x hx => h x (List.mem_cons_of_mem _ hx)
    have h2 := h k List.mem_cons_self
    simp only [shortL, List.length_cons]
    omega

set_option maxRecDepth 100000 in
set_option maxHeartbeats 32000000 in
theorem swshort_any (v : Value) (n : Nat) (w : World) (hi : IntsAt w v n w.heap.size) (hn : n ≤ 9223372036854775807) :
    Calls Try.prog 4 #[v] w fun e w' => e = .returned (.bool true) ∧ Below w.heap.size w w' := by
  have HNEW := Lib.hid (sNew_any v n w hi hn)
  have HSN := Lib.hid sane24_true
  clear hi hn
  go_enter Try.func4, Try.ntmps4
  go_wp2_with fail
  refine (HNEW.out).mono ?_
  rintro e w1 ⟨rfl, t1, b1⟩
  obtain ⟨tb, htb⟩ : ∃ tb, tb = w.heap.size := ⟨_, rfl⟩
  rw [← htb] at t1 ⊢
  have HACC : Hid (Calls Try.prog 10 #[.pointer (some ⟨tb, 0, none⟩), .int .i64 10] w1 (AccPost tb 10 w1)) := Lib.hid (sAccount_any tb 10 w1 t1 (by decide))
  have HW1 := Lib.hid b1
  have HTB := Lib.hid htb
  clear t1 b1 HNEW htb
  go_wp2_with fail
  refine (HACC.out).mono ?_
  rintro e w2 ⟨a, su, en, rfl, hmd, hs, he, hsi, hcr⟩
  obtain ⟨aS, cS, rfl, -, -⟩ := hs.shape
  obtain ⟨aE, cE, rfl, -, -⟩ := entsAt_shape he
  have HKP := Lib.hid (sKeeps_any tb w2 hsi.src)
  have HSI2 := Lib.hid hsi
  have HS2 := Lib.hid hs
  have HE2 := Lib.hid he
  have HMD := Lib.hid hmd
  have HB2 := Lib.hid ((HW1.out).grown hsi.old HW1.out.size (fun q e => by injection e with e; rw [← e, ← HTB.out]; exact Nat.le_refl _))
  clear hsi hs he hmd HACC
  go_wp2_with fail
  refine (HKP.out).mono ?_
  rintro e w3 ⟨kv, ks, rfl, hku, hko, hsi3⟩
  have hS3 := HS2.out.turn HSI2.out.src hsi3.old
  have hE3 := HE2.out.turn HSI2.out.src hsi3.old
  have hK3 : KeepsAt w3 kv ks := ListAt.owns hko
  have hB3 := HB2.out.grown hsi3.old HB2.out.size (fun q e => by injection e with e; rw [← e, ← HTB.out]; exact Nat.le_refl _)
  obtain ⟨aK, cK, rfl, -, -⟩ := hK3.open
  have hko : keepsB a.subs 0 true ks = true := hku.right HMD.out.ids
  have HSRC3 := Lib.hid hsi3.src
  obtain ⟨nS, hnS⟩ : ∃ k, k = a.subs.length := ⟨_, rfl⟩
  obtain ⟨nE, hnE⟩ : ∃ k, k = a.ents.length := ⟨_, rfl⟩
  obtain ⟨nK, hnK⟩ : ∃ k, k = ks.length := ⟨_, rfl⟩
  obtain ⟨cr, hcr2⟩ : ∃ c, c = a.credit := ⟨_, rfl⟩
  rw [← hnS] at hS3
  rw [← hnE] at hE3
  rw [← hnK] at hK3
  rw [← hnS, ← hnE, ← hcr2]
  try rw [← hnK]
  have HKU := Lib.hid hku
  have HKO := Lib.hid hko
  have HNS := Lib.hid hnS
  have HNE := Lib.hid hnE
  have HNK := Lib.hid hnK
  have HCR := Lib.hid hcr2
  have hz := checkM_zero.1 HMD.out.right
  have hns20 : nS ≤ 20 := by rw [hnS]; exact hz.1
  have hne4 : nE ≤ 10 := by rw [hnE]; exact HMD.out.len
  have hnk3 : nK ≤ 3 := by rw [hnK]; exact hku.len
  clear hku hko hsi3 hnS hnE hnK hcr2 hz hcr HKP HSI2 HS2 HE2 HB2
  go_upto_region 3 with fail
  obtain ⟨w4, hw4⟩ : ∃ w4, w4 = w3.alloc (.cells #[.int .i64 cr, .slice aS nS cS, .slice aE nE cE] 28) := ⟨_, rfl⟩
  obtain ⟨bA, hbA⟩ : ∃ bA, bA = w3.heap.size := ⟨_, rfl⟩
  have HBA : Hid (w4.heap[bA]? = some (.cells #[.int .i64 cr, .slice aS nS cS, .slice aE nE cE] 28 (0, 0))) := Lib.hid (by rw [hw4, hbA]; exact heap_alloc_new _ _)
  have HSA : Hid (SubsAt w4 (.slice aS nS cS) a.subs) := Lib.hid (by rw [hw4]; exact hS3.below (below_alloc _ _))
  have HEA : Hid (EntsAt w4 (.slice aE nE cE) a.ents) := Lib.hid (by rw [hw4]; exact hE3.below (below_alloc _ _))
  have HKA : Hid (KeepsAt w4 (.slice aK nK cK) ks) := Lib.hid (by rw [hw4]; exact hK3.below (below_alloc _ _))
  have HB4 : Hid (Below w.heap.size w w4) := Lib.hid (by rw [hw4]; exact hB3.alloc hB3.size _)
  rw [← hw4, ← hbA]
  clear hw4 hbA hS3 hE3 hK3 hB3 HSRC3
  have htop := HMD.out.top (by omega)
  have hsum := sumM_le htop
  have hids : a.subs.length = 4 := by have := congrArg List.length HMD.out.ids; simpa using this
  have hday := HMD.out.day
  obtain ⟨es, b, hsw⟩ := sweep_all (day := 50) HMD.out.right HKO.out (by omega) (by omega) (by omega) (by rw [hids] at hsum; omega) (by rw [← HNE.out, ← HNK.out]; omega)
  have HSW := Lib.hid hsw
  have HBIG : Hid (∀ k ∈ ks, balOf a.subs k.sub ≤ 1000000000000) := Lib.hid fun k _ => by
    have := balOf_le htop (by omega) k.sub
    omega
  have HRB := Lib.hid hsw.run.right
  have HPOST : Hid (∀ W, Below w4.heap.size w4 W → Calls Try.prog 16 #[.agg #[.int .i64 cr, .slice aS nS cS, .slice aE nE cE], .slice aK nK cK, .int .i64 50] W fun e w' => ∃ (aX aY : Option Addr) (nX cX nY cY : Nat) (cb : Int), e = .returned (.tuple #[.agg #[.int .i64 cb, .slice aX nX cX, .slice aY nY cY], .int .i64 0]) ∧ cb = b.credit ∧ nX = b.subs.length ∧ nY = b.ents.length ∧ SubsAt w' (.slice aX nX cX) b.subs ∧ EntsAt w' (.slice aY nY cY) b.ents ∧ Below W.heap.size W w') := Lib.hid fun W hW => by
    have h := swSweep_right a b ks (.slice aS nS cS) (.slice aE nE cE) (.slice aK nK cK) 50 es W (HSA.out.below hW) (HEA.out.below hW) (HKA.out.below hW) (by rw [← HNK.out]; omega) HSW.out.plan HSW.out.run.posts
    rw [← HCR.out] at h
    refine h.mono ?_
    rintro e w' ⟨su, en, h1, h2, h3, h4⟩
    obtain ⟨aX, cX, rfl, -, -⟩ := h2.shape
    obtain ⟨aY, cY, rfl, -, -⟩ := entsAt_shape h3
    exact ⟨aX, aY, _, cX, _, cY, _, h1, rfl, rfl, rfl, h2, h3, h4⟩
  clear htop hsum hids hday hsw
  have hbx := HBA.out
  have u0 := obj_cell hbx 0
  have u1 := obj_cell hbx 1
  have u2 := obj_cell hbx 2
  simp at u0 u1 u2
  clear hbx
  go_wp2_with fail
  refine (HPOST.out _ (Below.refl _ _)).mono ?_
  rintro e w5 ⟨aX, aY, nX, cX, nY, cY, cb, rfl, hcb, hnX, hnY, hs5, he5, hb5⟩
  have HCB := Lib.hid hcb
  have HNX := Lib.hid hnX
  have HNY := Lib.hid hnY
  have hbz := checkM_zero.1 HRB.out
  have hnx20 : nX ≤ 20 := by rw [hnX]; exact hbz.1
  have hny4 : nY ≤ 400 := by rw [hnY]; exact hbz.2.1
  clear u0 u1 u2 HPOST hcb hnX hnY hbz
  go_upto_region 4 with fail
  obtain ⟨w6, hw6⟩ : ∃ w6, w6 = w5.alloc (.cells #[.int .i64 cb, .slice aX nX cX, .slice aY nY cY] 28) := ⟨_, rfl⟩
  obtain ⟨bB, hbB⟩ : ∃ bB, bB = w5.heap.size := ⟨_, rfl⟩
  have HB6 : Hid (Below w4.heap.size w4 w6) := Lib.hid (by rw [hw6]; exact hb5.alloc hb5.size _)
  have HXB : Hid (w6.heap[bB]? = some (.cells #[.int .i64 cb, .slice aX nX cX, .slice aY nY cY] 28 (0, 0))) := Lib.hid (by rw [hw6, hbB]; exact heap_alloc_new _ _)
  have HXA := Lib.hid (obj_below HBA.out HB6.out)
  have HSB : Hid (SubsAt w6 (.slice aX nX cX) b.subs) := Lib.hid (by rw [hw6]; exact hs5.below (below_alloc _ _))
  have HEB : Hid (EntsAt w6 (.slice aY nY cY) b.ents) := Lib.hid (by rw [hw6]; exact he5.below (below_alloc _ _))
  have HK6 := Lib.hid (HKA.out.below HB6.out)
  have HS6 := Lib.hid (HSA.out.below HB6.out)
  have HE6 := Lib.hid (HEA.out.below HB6.out)
  have HW6 := Lib.hid (HB4.out.trans (HB6.out.mono HB4.out.size))
  rw [← hw6, ← hbB]
  clear hw6 hbB hs5 he5 hb5 HSA HEA HKA HBA HB4
  have HKB : Hid (keepsB b.subs 0 true ks = true) := Lib.hid (HKU.out.right (HSW.out.run.ids.trans HMD.out.ids))

  have hbe := HSW.out.run.ents
  have hel := HSW.out.len
  obtain ⟨q, hq⟩ : ∃ q, q = es.length := ⟨_, rfl⟩
  have hnq : nY = nE + q := by rw [HNY.out, hbe, List.length_append, ← HNE.out, hq]
  have hq6 : q ≤ 6 := by rw [hq]; rw [← HNK.out] at hel; omega
  have HQ := Lib.hid hq
  have HNQ := Lib.hid hnq
  have HAMT : Hid (∀ e ∈ es, 1 ≤ e.amount ∧ e.amount ≤ 1000000000000) := Lib.hid fun e he => right_amt HRB.out e (by rw [hbe]; exact List.mem_append_right _ he)
  have HCELL : Hid (0 < nY → ∃ b' o, aY = some ⟨b', o, none⟩ ∧ b' < w6.heap.size ∧ ∀ i, i < q → ∀ j, j < 6 → w6.cell? ⟨b', o + (nE + i) * 6 + j, none⟩ = (entAt es i).cells[j]?) := Lib.hid fun hp => by
    obtain ⟨ao, cap, h1, h2, h3⟩ := entsAt_shape HEB.out
    injection h1 with h4 h5 h6
    subst h4
    obtain ⟨b', o, h7, h8, h9⟩ := h3 (by rw [← HNY.out]; omega)
    refine ⟨b', o, h7, h8, fun i hi j hj => ?_⟩
    rw [h9 (nE + i) (by rw [← HNY.out, HNQ.out]; omega) j hj]
    have : entAt b.ents (nE + i) = entAt es i := by
      unfold entAt
      rw [hbe, List.getD_eq_getElem?_getD, List.getD_eq_getElem?_getD, List.getElem?_append_right (by rw [← HNE.out]; omega), ← HNE.out, Nat.add_sub_cancel_left]
    rw [this]
  have hcap6 : nY ≤ cY := by
    obtain ⟨ao, cap, h1, h2, h3⟩ := entsAt_shape HEB.out
    injection h1 with h4 h5 h6
    rw [h6, h5]; exact h2
  have hbx := HXB.out
  have u0 := obj_cell hbx 0
  have u1 := obj_cell hbx 1
  have u2 := obj_cell hbx 2
  have hbx2 := HXA.out
  have v0 := obj_cell hbx2 0
  have v1 := obj_cell hbx2 1
  have v2 := obj_cell hbx2 2
  simp at u0 u1 u2 v0 v1 v2
  have hlq : ¬ (nY : Int) < (nE : Int) := by omega
  have hlq2 : (nE : Int) ≤ (nY : Int) := by omega
  have hlq3 : nE ≤ nY := by omega
  have hnE0 : (0 : Int) ≤ (nE : Int) := by omega
  clear hbx hbx2 hbe hel hq hnq
  have hyq : nY - nE = q := by rw [HNQ.out]; omega
  have HYQ := Lib.hid hyq
  have HNQ2 : Hid (cY = nE → q = 0) := Lib.hid fun h => by have := HNQ.out; omega
  have HZ : Hid (∀ (aZ : Option Addr) (cZ : Nat), (aZ = aY ∧ q = 0) ∨ aZ = aY.map (fun x => x.add (nE * 6)) → (0 < q → ∃ b' o, aZ = some ⟨b', o, none⟩ ∧ b' < w6.heap.size ∧ ∀ i, i < q → ∀ j, j < 6 → w6.cell? ⟨b', o + i * 6 + j, none⟩ = (entAt es i).cells[j]?)) := Lib.hid fun aZ cZ hz h0 => by
    rcases hz with ⟨-, hz⟩ | hz
    · omega
    · obtain ⟨b', o, h1, h2, h3⟩ := HCELL.out (by rw [HNQ.out]; omega)
      refine ⟨b', o + nE * 6, by rw [hz, h1]; simp [at_add], h2, fun i hi j hj => ?_⟩
      rw [← h3 i hi j hj]
      congr 2
      omega
  clear hyq
  go_upto_region 7 with fail
  go_cut [42, 43, 44] (fun sv lv zv wx => ∃ (aZ : Option Addr) (cZ : Nat), sv = .slice aZ q cZ ∧ lv = .int .i64 q ∧ zv = .int .i64 0 ∧ w6 = wx ∧ Hid (0 < q → ∃ b' o, aZ = some ⟨b', o, none⟩ ∧ b' < w6.heap.size ∧ ∀ i, i < q → ∀ j, j < 6 → w6.cell? ⟨b', o + i * 6 + j, none⟩ = (entAt es i).cells[j]?))
  case first =>
    go_wp2
    all_goals
      go_meet
      first
        | exact ⟨_, _, by rw [HYQ.out], by rw [HYQ.out], rfl, rfl, Lib.hid (HZ.out _ 0 (Or.inr rfl))⟩
        | exact ⟨_, _, by rw [HYQ.out], by rw [HYQ.out], rfl, rfl, Lib.hid (HZ.out _ 0 (Or.inl ⟨rfl, HNQ2.out (by first | rfl | assumption | omega)⟩))⟩
  case rest =>
  obtain ⟨aZ, cZ, rfl, rfl, rfl, rfl, HCZ⟩ := hcut
  clear HZ HCELL HYQ HNQ2 u0 u1 u2 v0 v1 v2
  go_wp2
  go_loopw [8, 9, 44] (fun gv tv iv wr => ∃ (g tk : Int) (j : Nat), gv = .int .i64 g ∧ tv = .int .i64 tk ∧ iv = .int .i64 j ∧ j ≤ q ∧ Hid (g = givenL (es.take j)) ∧ Hid (tk = takenL (es.take j)) ∧ (0 ≤ g ∧ g ≤ 1000000000000 * (j : Int)) ∧ (0 ≤ tk ∧ tk ≤ 1000000000000 * (j : Int)) ∧ Hid (Below w6.heap.size w6 wr)) (fun _ _ iv _ => q - (RowKit.intOf iv).toNat)
  case atStart => exact ⟨0, 0, 0, rfl, rfl, rfl, by omega, Lib.hid rfl, Lib.hid rfl, by omega, by omega, Lib.hid (Below.refl _ _)⟩
  case round =>
    obtain ⟨g, tk, j, rfl, rfl, rfl, hjq, HG, HT, hg, ht, HB⟩ := hrel
    by_cases hlt : j < q
    · have hjl : j < es.length := by rw [← HQ.out]; exact hlt
      obtain ⟨b', o, rfl, hb, hcc⟩ := HCZ.out (by omega)
      have hcell := fun i (hi : i < 6) => (HB.out.cell (p := ⟨b', o + j * 6 + i, none⟩) hb).trans (hcc j hlt i hi)
      obtain ⟨g1, g2⟩ := givenL_take hjl
      rw [← HG.out] at g1
      rw [← HT.out] at g2
      have ham := HAMT.out _ (List.getElem_mem hjl)
      rw [← entAt_get hjl] at ham
      generalize entAt es j = x at *
      obtain ⟨x0, x1, x2, x3, x4, x5⟩ := x
      simp only at g1 g2 ham
      have e0 := hcell 0 (by omega)
      have e1 := hcell 1 (by omega)
      have e2 := hcell 2 (by omega)
      have e3 := hcell 3 (by omega)
      have e4 := hcell 4 (by omega)
      have e5 := hcell 5 (by omega)
      simp [Ent.cells] at e0 e1 e2 e3 e4 e5
      have G1 := Lib.hid g1
      have G2 := Lib.hid g2
      have hj0 : (0 : Int) ≤ (j : Int) := by omega
      have hj1 : (j : Int) < (q : Int) := by omega
      have HB2 := Lib.hid (HB.out.alloc HB.out.size (.cells #[.int .i64 x0, .int .i64 x1, .int .i64 x2, .int .i64 x3, .int .i64 x4, .int .i64 x5] 38))
      clear hcell hcc g1 g2 hjl
      by_cases hx : x2 = 1
      · have hx1 : (x2 == 1) = true := by rw [beq_iff_eq]; exact hx
        have G3 : Hid (g + x4 = givenL (es.take (j + 1))) := Lib.hid (by rw [G1.out, if_pos hx])
        have G4 : Hid (tk = takenL (es.take (j + 1))) := Lib.hid (by rw [G2.out, if_pos hx]; omega)
        clear hx
        go_wp2
        go_roundw
        case rel => exact ⟨g + x4, tk, j + 1, rfl, rfl, (by first | rfl | go_num), by omega, G3, G4, by omega, by omega, HB2⟩
        case measure => simp [RowKit.intOf]; omega
      · have hx1 : (x2 == 1) = false := by rw [beq_eq_false_iff_ne]; exact hx
        have G3 : Hid (g = givenL (es.take (j + 1))) := Lib.hid (by rw [G1.out, if_neg hx]; omega)
        have G4 : Hid (tk + x4 = takenL (es.take (j + 1))) := Lib.hid (by rw [G2.out, if_neg hx])
        clear hx
        go_wp2
        go_roundw
        case rel => exact ⟨g, tk + x4, j + 1, rfl, rfl, (by first | rfl | go_num), by omega, G3, G4, by omega, by omega, HB2⟩
        case measure => simp [RowKit.intOf]; omega
    · obtain rfl : q = j := by omega
      have hg1 : g = givenL es := by rw [HG.out, HQ.out, List.take_length]
      have ht1 : tk = takenL es := by rw [HT.out, HQ.out, List.take_length]
      have HB7 := Lib.hid HB.out
      obtain ⟨mn, hmn⟩ : ∃ x, x = balOf a.subs 1 := ⟨_, rfl⟩
      have HBAL : Hid (∀ W, Below w6.heap.size w6 W → Calls Try.prog 19 #[.agg #[.int .i64 cr, .slice aS nS cS, .slice aE nE cE], .int .i64 1] W fun e w' => e = .returned (.tuple #[.int .i64 mn, .bool true]) ∧ Below W.heap.size W w') := Lib.hid fun W hW => by
        have h := raBalance_any a (.slice aS nS cS) (.slice aE nE cE) 1 W (HS6.out.below hW) (HE6.out.below hW) (by rw [← HNS.out]; omega) (by rw [← HNE.out]; omega)
        have hbm : balanceM a 1 = (mn, true) := by
          unfold balanceM
          rw [if_pos HMD.out.right, hmn]
          unfold balOf
          rw [right_one HMD.out.right]
        rw [hbm, ← HCR.out] at h
        exact h
      obtain ⟨hm1, hm2⟩ := balOf_range HMD.out.right 1
      rw [← hmn] at hm1 hm2
      have hmono := HSW.out.mono
      rw [← hg1, ← ht1, ← hmn] at hmono
      have hsh := HSW.out.short
      rw [← hg1] at hsh
      obtain ⟨s1, hs1⟩ : ∃ x, x = shortL a.subs ks := ⟨_, rfl⟩
      rw [← hs1] at hsh
      have hsb := shortL_bound (l := a.subs) (ks := ks) fun k hk => by
        have h1 := (keepsB_mem HKO.out k hk).1
        have h2 := balOf_range HMD.out.right k.sub
        omega
      rw [← hs1, ← HNK.out] at hsb
      obtain ⟨mx, hmx0⟩ : ∃ x, x = max (mn + tk) 0 := ⟨_, rfl⟩
      have hmx : (if mn + tk < 0 then 0 else mn + tk) = mx := by rw [hmx0]; split <;> omega
      have hqL : g ≤ mx := by omega
      have hw1 : IntKind.i64.wrap (s1 - g) = s1 - g := IntWalk.i64_in _ (by omega)
      have hw2 : IntKind.i64.wrap (mn + tk) = mn + tk := IntWalk.i64_in _ (by omega)
      have HSH := Lib.hid hsh
      have HS1 := Lib.hid hs1
      have hbx2 := obj_below HXA.out HB7.out
      have v0 := obj_cell hbx2 0
      have v1 := obj_cell hbx2 1
      have v2 := obj_cell hbx2 2
      simp at v0 v1 v2
      clear hg1 ht1 hmn hsh hs1 hmono hmx0 hbx2 HG HT hlt HCZ HAMT HQ
      go_wp2_with fail
      refine (HBAL.out _ HB7.out).mono ?_
      rintro e w8 ⟨rfl, hb8⟩
      have HB8 := Lib.hid (HB7.out.trans (hb8.mono HB7.out.size))
      clear hb8 v0 v1 v2 HBAL
      go_upto_region 15 with fail
      obtain ⟨J, hJ⟩ : ∃ J, J = fun W : World => Below w8.heap.size w8 W := ⟨_, rfl⟩
      have HJO : Hid (∀ W, J W → Below w8.heap.size w8 W) := Lib.hid fun W hW => by rw [hJ] at hW; exact hW
      have HJI : Hid (∀ W, Below w8.heap.size w8 W → J W) := Lib.hid fun W hW => by rw [hJ]; exact hW
      have HJD : Hid (∀ W, J W → J W.drew) := Lib.hid fun W hW => HJI.out _ ((HJO.out W hW).drew)
      have HJ0 : Hid (J w8) := Lib.hid (HJI.out _ (Below.refl _ _))
      have HJW : Hid (∀ W, J W → Below w6.heap.size w6 W) := Lib.hid fun W hW => HB8.out.trans ((HJO.out W hW).mono HB8.out.size)
      have HCLA : Hid (∀ W, J W → ∀ j, W.cell? ⟨bA, j, none⟩ = #[.int .i64 cr, .slice aS nS cS, .slice aE nE cE][j]?) := Lib.hid fun W hW j => obj_cell (obj_below HXA.out (HJW.out W hW)) j
      have HCLB : Hid (∀ W, J W → ∀ j, W.cell? ⟨bB, j, none⟩ = #[.int .i64 cb, .slice aX nX cX, .slice aY nY cY][j]?) := Lib.hid fun W hW j => obj_cell (obj_below HXB.out (HJW.out W hW)) j
      have HFIN : Hid (∀ W, J W → Below w.heap.size w W) := Lib.hid fun W hW => HW6.out.trans ((HJW.out W hW).mono HW6.out.size)
      have HC9 : Hid (∀ W, J W → Calls Try.prog 18 #[] W fun e w' => e = .returned (.bool true) ∧ J w') := Lib.hid fun W hW =>
        (HSN.out W).mono fun e w' g => ⟨g.1, HJI.out _ ((HJO.out W hW).trans (g.2.mono (HJO.out W hW).size))⟩
      have HC1 : Hid (∀ W, J W → Calls Try.prog 20 #[.agg #[.int .i64 cb, .slice aX nX cX, .slice aY nY cY], .slice aK nK cK] W fun e w' => e = .returned (.int .i64 (s1 - g)) ∧ J w') := Lib.hid fun W hW => by
        have h := swShort_right b ks (.slice aX nX cX) (.slice aY nY cY) (.slice aK nK cK) W (HSB.out.below (HJW.out W hW)) (HEB.out.below (HJW.out W hW)) (HK6.out.below (HJW.out W hW)) (by rw [← HNK.out]; omega) HRB.out HKB.out
        rw [HSH.out, ← HCB.out] at h
        exact h.mono fun e w' g => ⟨g.1, HJI.out _ ((HJO.out W hW).trans (g.2.mono (HJO.out W hW).size))⟩
      have HC2 : Hid (∀ W, J W → Calls Try.prog 20 #[.agg #[.int .i64 cr, .slice aS nS cS, .slice aE nE cE], .slice aK nK cK] W fun e w' => e = .returned (.int .i64 s1) ∧ J w') := Lib.hid fun W hW => by
        have h := swShort_right a ks (.slice aS nS cS) (.slice aE nE cE) (.slice aK nK cK) W (HS6.out.below (HJW.out W hW)) (HE6.out.below (HJW.out W hW)) (HK6.out.below (HJW.out W hW)) (by rw [← HNK.out]; omega) HMD.out.right HKO.out
        rw [← HS1.out, ← HCR.out] at h
        exact h.mono fun e w' g => ⟨g.1, HJI.out _ ((HJO.out W hW).trans (g.2.mono (HJO.out W hW).size))⟩
      have egS := enters_of Try.func20 (by kernel_rfl) rfl
      have egX := enters_of Try.func18 (by kernel_rfl) rfl
      have hqE : True := trivial
      clear hJ HXA HXB HSB HEB HK6 HS6 HE6 HW6 HB7 HB8 HKB HSW HBIG HRB HKO HKU HMD HB6 HSH HS1 HB
      refine wp_region_props [65, 66, 67, 68, 69, 70, 71, 72, 73, 74, 75, 76, 77, 78, 79, 80, 81, 82, 83, 84, 2] (slotS [65, 66, 67, 68, 69, 70, 71, 72, 73, 74, 75, 76, 77, 78, 79, 80, 81, 82, 83, 84, 2]) (readsS [65, 66, 67, 68, 69, 70, 71, 72, 73, 74, 75, 76, 77, 78, 79, 80, 81, 82, 83, 84, 2]) (RTs [65, 66, 67, 68, 69, 70, 71, 72, 73, 74, 75, 76, 77, 78, 79, 80, 81, 82, 83, 84, 2] [.agg #[.int .i64 cb, .slice aX nX cX, .slice aY nY cY], .slice aK nK cK, .int .i64 (s1 - g), .agg #[.int .i64 cr, .slice aS nS cS, .slice aE nE cE], .slice aK nK cK, .int .i64 s1, .int .i64 g, .int .i64 (s1 - g), .bool true, .bool true, .int .i64 g, .int .i64 mn, .int .i64 tk, .int .i64 (mn + tk), .int .i64 mx, .bool true, .bool true, .bool true, .bool true, .bool true, .bool true]) J (by kernel_rfl) (by kernel_rfl) (by kernel_rfl) (HJD.out _ HJ0.out) (fun j f q v W hq h => RTs.upd hq h) ?_ ?_
      case refine_1 =>
        intro iq hiq f W hIW hdep
        have hiq' : iq < 21 := hiq
        generalize ha1 : putsL _ [65, 66, 67, 68, 69, 70, 71, 72, 73, 74, 75, 76, 77, 78, 79, 80, 81, 82, 83, 84, 2] f = a1
        match iq, hiq', hdep with
        | 0, _, hdep =>
          have E6 : a1.tmps[6]?.getD undef = .pointer (some ⟨bB, 0, none⟩) := by rw [← ha1]; exact (putsL_out2 _ _ _ _ (by decide)).trans rfl
          have v0 : W.cell? ⟨bB, 0, none⟩ = some (.int .i64 cb) := by simpa using HCLB.out W hIW 0
          have v1 : W.cell? ⟨bB, 1, none⟩ = some (.slice aX nX cX) := by simpa using HCLB.out W hIW 1
          have v2 : W.cell? ⟨bB, 2, none⟩ = some (.slice aY nY cY) := by simpa using HCLB.out W hIW 2
          exact wpOp_val rfl rfl (v := .agg #[.int .i64 cb, .slice aX nX cX, .slice aY nY cY]) (w' := W) (by simp [execOp, go_sem, E6, v0, v1, v2]) ⟨hIW, fun _ h => h, Or.inl ⟨_, by decide, rfl, updF_same _ _ _⟩⟩
        | 1, _, hdep =>
          have E5 : a1.tmps[5]?.getD undef = .slice aK nK cK := by rw [← ha1]; exact (putsL_out2 _ _ _ _ (by decide)).trans rfl
          exact wpOp_val rfl rfl (v := .slice aK nK cK) (w' := W) (by simp [execOp, go_sem, E5]) ⟨hIW, fun _ h => h, Or.inl ⟨_, by decide, rfl, updF_same _ _ _⟩⟩
        | 2, _, hdep =>
          have E65 : a1.tmps[65]?.getD undef = .agg #[.int .i64 cb, .slice aX nX cX, .slice aY nY cY] := by rw [← ha1]; exact (putsL_in2 _ _ _ _ (by decide) (show 65 < 85 from by decide)).trans (hdep 0 (by kernel_rfl))
          have E66 : a1.tmps[66]?.getD undef = .slice aK nK cK := by rw [← ha1]; exact (putsL_in2 _ _ _ _ (by decide) (show 66 < 85 from by decide)).trans (hdep 1 (by kernel_rfl))
          refine wpOp_call rfl rfl (n := 20) (vs := #[.agg #[.int .i64 cb, .slice aX nX cX, .slice aY nY cY], .slice aK nK cK]) (by have := egS #[.agg #[.int .i64 cb, .slice aX nX cX, .slice aY nY cY], .slice aK nK cK] W; simp [execOp, E65, E66, resolve, invoke, go_sem] <;> exact this) ((HC1.out W hIW).mono fun e w' h => (⟨_, h.1, rfl, h.2⟩ : ∃ v, e = .returned v ∧ (v = .int .i64 (s1 - g) ∧ J w'))) ?_
          rintro v w' ⟨rfl, hI'⟩
          exact ⟨hI', fun _ h => h, Or.inl ⟨_, by decide, rfl, updF_same _ _ _⟩⟩
        | 3, _, hdep =>
          have E4 : a1.tmps[4]?.getD undef = .pointer (some ⟨bA, 0, none⟩) := by rw [← ha1]; exact (putsL_out2 _ _ _ _ (by decide)).trans rfl
          have v0 : W.cell? ⟨bA, 0, none⟩ = some (.int .i64 cr) := by simpa using HCLA.out W hIW 0
          have v1 : W.cell? ⟨bA, 1, none⟩ = some (.slice aS nS cS) := by simpa using HCLA.out W hIW 1
          have v2 : W.cell? ⟨bA, 2, none⟩ = some (.slice aE nE cE) := by simpa using HCLA.out W hIW 2
          exact wpOp_val rfl rfl (v := .agg #[.int .i64 cr, .slice aS nS cS, .slice aE nE cE]) (w' := W) (by simp [execOp, go_sem, E4, v0, v1, v2]) ⟨hIW, fun _ h => h, Or.inl ⟨_, by decide, rfl, updF_same _ _ _⟩⟩
        | 4, _, hdep =>
          have E5 : a1.tmps[5]?.getD undef = .slice aK nK cK := by rw [← ha1]; exact (putsL_out2 _ _ _ _ (by decide)).trans rfl
          exact wpOp_val rfl rfl (v := .slice aK nK cK) (w' := W) (by simp [execOp, go_sem, E5]) ⟨hIW, fun _ h => h, Or.inl ⟨_, by decide, rfl, updF_same _ _ _⟩⟩
        | 5, _, hdep =>
          have E68 : a1.tmps[68]?.getD undef = .agg #[.int .i64 cr, .slice aS nS cS, .slice aE nE cE] := by rw [← ha1]; exact (putsL_in2 _ _ _ _ (by decide) (show 68 < 85 from by decide)).trans (hdep 3 (by kernel_rfl))
          have E69 : a1.tmps[69]?.getD undef = .slice aK nK cK := by rw [← ha1]; exact (putsL_in2 _ _ _ _ (by decide) (show 69 < 85 from by decide)).trans (hdep 4 (by kernel_rfl))
          refine wpOp_call rfl rfl (n := 20) (vs := #[.agg #[.int .i64 cr, .slice aS nS cS, .slice aE nE cE], .slice aK nK cK]) (by have := egS #[.agg #[.int .i64 cr, .slice aS nS cS, .slice aE nE cE], .slice aK nK cK] W; simp [execOp, E68, E69, resolve, invoke, go_sem] <;> exact this) ((HC2.out W hIW).mono fun e w' h => (⟨_, h.1, rfl, h.2⟩ : ∃ v, e = .returned v ∧ (v = .int .i64 s1 ∧ J w'))) ?_
          rintro v w' ⟨rfl, hI'⟩
          exact ⟨hI', fun _ h => h, Or.inl ⟨_, by decide, rfl, updF_same _ _ _⟩⟩
        | 6, _, hdep =>
          have E8 : a1.tmps[8]?.getD undef = .int .i64 g := by rw [← ha1]; exact (putsL_out2 _ _ _ _ (by decide)).trans rfl
          exact wpOp_val rfl rfl (v := .int .i64 g) (w' := W) (by simp [execOp, go_sem, E8]) ⟨hIW, fun _ h => h, Or.inl ⟨_, by decide, rfl, updF_same _ _ _⟩⟩
        | 7, _, hdep =>
          have E70 : a1.tmps[70]?.getD undef = .int .i64 s1 := by rw [← ha1]; exact (putsL_in2 _ _ _ _ (by decide) (show 70 < 85 from by decide)).trans (hdep 5 (by kernel_rfl))
          have E71 : a1.tmps[71]?.getD undef = .int .i64 g := by rw [← ha1]; exact (putsL_in2 _ _ _ _ (by decide) (show 71 < 85 from by decide)).trans (hdep 6 (by kernel_rfl))
          exact wpOp_val rfl rfl (v := .int .i64 (s1 - g)) (w' := W) (by simp [execOp, go_sem, E70, E71, hw1]) ⟨hIW, fun _ h => h, Or.inl ⟨_, by decide, rfl, updF_same _ _ _⟩⟩
        | 8, _, hdep =>
          have E67 : a1.tmps[67]?.getD undef = .int .i64 (s1 - g) := by rw [← ha1]; exact (putsL_in2 _ _ _ _ (by decide) (show 67 < 85 from by decide)).trans (hdep 2 (by kernel_rfl))
          have E72 : a1.tmps[72]?.getD undef = .int .i64 (s1 - g) := by rw [← ha1]; exact (putsL_in2 _ _ _ _ (by decide) (show 72 < 85 from by decide)).trans (hdep 7 (by kernel_rfl))
          exact wpOp_val rfl rfl (v := .bool true) (w' := W) (by simp [execOp, go_sem, E67, E72, hqE]) ⟨hIW, fun _ h => h, Or.inl ⟨_, by decide, rfl, updF_same _ _ _⟩⟩
        | 9, _, hdep =>
          have E73 : a1.tmps[73]?.getD undef = .bool true := by rw [← ha1]; exact (putsL_in2 _ _ _ _ (by decide) (show 73 < 85 from by decide)).trans (hdep 8 (by kernel_rfl))
          exact wpOp_val rfl rfl (v := .bool true) (w' := W) (by simp [execOp, go_sem, E73]) ⟨hIW, fun _ h => h, Or.inl ⟨_, by decide, rfl, updF_same _ _ _⟩⟩
        | 10, _, hdep =>
          have G9 : a1.tmps[74]? = some (.bool true) := by rw [← ha1]; exact (putsL_some _ _ _ _ (by decide) (show 74 < 85 from by decide)).trans (congrArg some (hdep 9 (by kernel_rfl)))
          have E8 : a1.tmps[8]?.getD undef = .int .i64 g := by rw [← ha1]; exact (putsL_out2 _ _ _ _ (by decide)).trans rfl
          exact wpOp_valG rfl rfl (yielded_of rfl G9) (v := .int .i64 g) (w' := W) (by simp [execOp, go_sem, E8]) ⟨hIW, fun _ h => h, Or.inl ⟨_, by decide, rfl, updF_same _ _ _⟩⟩
        | 11, _, hdep =>
          have G9 : a1.tmps[74]? = some (.bool true) := by rw [← ha1]; exact (putsL_some _ _ _ _ (by decide) (show 74 < 85 from by decide)).trans (congrArg some (hdep 9 (by kernel_rfl)))
          have E12 : a1.tmps[12]?.getD undef = .int .i64 mn := by rw [← ha1]; exact (putsL_out2 _ _ _ _ (by decide)).trans rfl
          exact wpOp_valG rfl rfl (yielded_of rfl G9) (v := .int .i64 mn) (w' := W) (by simp [execOp, go_sem, E12]) ⟨hIW, fun _ h => h, Or.inl ⟨_, by decide, rfl, updF_same _ _ _⟩⟩
        | 12, _, hdep =>
          have G9 : a1.tmps[74]? = some (.bool true) := by rw [← ha1]; exact (putsL_some _ _ _ _ (by decide) (show 74 < 85 from by decide)).trans (congrArg some (hdep 9 (by kernel_rfl)))
          have E9 : a1.tmps[9]?.getD undef = .int .i64 tk := by rw [← ha1]; exact (putsL_out2 _ _ _ _ (by decide)).trans rfl
          exact wpOp_valG rfl rfl (yielded_of rfl G9) (v := .int .i64 tk) (w' := W) (by simp [execOp, go_sem, E9]) ⟨hIW, fun _ h => h, Or.inl ⟨_, by decide, rfl, updF_same _ _ _⟩⟩
        | 13, _, hdep =>
          have G9 : a1.tmps[74]? = some (.bool true) := by rw [← ha1]; exact (putsL_some _ _ _ _ (by decide) (show 74 < 85 from by decide)).trans (congrArg some (hdep 9 (by kernel_rfl)))
          have E76 : a1.tmps[76]?.getD undef = .int .i64 mn := by rw [← ha1]; exact (putsL_in2 _ _ _ _ (by decide) (show 76 < 85 from by decide)).trans (hdep 11 (by kernel_rfl))
          have E77 : a1.tmps[77]?.getD undef = .int .i64 tk := by rw [← ha1]; exact (putsL_in2 _ _ _ _ (by decide) (show 77 < 85 from by decide)).trans (hdep 12 (by kernel_rfl))
          exact wpOp_valG rfl rfl (yielded_of rfl G9) (v := .int .i64 (mn + tk)) (w' := W) (by simp [execOp, go_sem, E76, E77, hw2]) ⟨hIW, fun _ h => h, Or.inl ⟨_, by decide, rfl, updF_same _ _ _⟩⟩
        | 14, _, hdep =>
          have G9 : a1.tmps[74]? = some (.bool true) := by rw [← ha1]; exact (putsL_some _ _ _ _ (by decide) (show 74 < 85 from by decide)).trans (congrArg some (hdep 9 (by kernel_rfl)))
          have E78 : a1.tmps[78]?.getD undef = .int .i64 (mn + tk) := by rw [← ha1]; exact (putsL_in2 _ _ _ _ (by decide) (show 78 < 85 from by decide)).trans (hdep 13 (by kernel_rfl))
          exact wpOp_valG rfl rfl (yielded_of rfl G9) (v := .int .i64 mx) (w' := W) (by simp [execOp, go_sem, E78, hmx]) ⟨hIW, fun _ h => h, Or.inl ⟨_, by decide, rfl, updF_same _ _ _⟩⟩
        | 15, _, hdep =>
          have G9 : a1.tmps[74]? = some (.bool true) := by rw [← ha1]; exact (putsL_some _ _ _ _ (by decide) (show 74 < 85 from by decide)).trans (congrArg some (hdep 9 (by kernel_rfl)))
          have E75 : a1.tmps[75]?.getD undef = .int .i64 g := by rw [← ha1]; exact (putsL_in2 _ _ _ _ (by decide) (show 75 < 85 from by decide)).trans (hdep 10 (by kernel_rfl))
          have E79 : a1.tmps[79]?.getD undef = .int .i64 mx := by rw [← ha1]; exact (putsL_in2 _ _ _ _ (by decide) (show 79 < 85 from by decide)).trans (hdep 14 (by kernel_rfl))
          exact wpOp_valG rfl rfl (yielded_of rfl G9) (v := .bool true) (w' := W) (by simp [execOp, go_sem, E75, E79, hqL]) ⟨hIW, fun _ h => h, Or.inl ⟨_, by decide, rfl, updF_same _ _ _⟩⟩
        | 16, _, hdep =>
          have E74 : a1.tmps[74]?.getD undef = .bool true := by rw [← ha1]; exact (putsL_in2 _ _ _ _ (by decide) (show 74 < 85 from by decide)).trans (hdep 9 (by kernel_rfl))
          have E80 : a1.tmps[80]?.getD undef = .bool true := by rw [← ha1]; exact (putsL_in2 _ _ _ _ (by decide) (show 80 < 85 from by decide)).trans (hdep 15 (by kernel_rfl))
          exact wpOp_val rfl rfl (v := .bool true) (w' := W) (by simp [execOp, go_sem, E74, E80]) ⟨hIW, fun _ h => h, Or.inl ⟨_, by decide, rfl, updF_same _ _ _⟩⟩
        | 17, _, hdep =>
          have E81 : a1.tmps[81]?.getD undef = .bool true := by rw [← ha1]; exact (putsL_in2 _ _ _ _ (by decide) (show 81 < 85 from by decide)).trans (hdep 16 (by kernel_rfl))
          exact wpOp_val rfl rfl (v := .bool true) (w' := W) (by simp [execOp, go_sem, E81]) ⟨hIW, fun _ h => h, Or.inl ⟨_, by decide, rfl, updF_same _ _ _⟩⟩
        | 18, _, hdep =>
          have G17 : a1.tmps[82]? = some (.bool true) := by rw [← ha1]; exact (putsL_some _ _ _ _ (by decide) (show 82 < 85 from by decide)).trans (congrArg some (hdep 17 (by kernel_rfl)))
          refine wpOp_callG rfl rfl (yielded_of rfl G17) (n := 18) (vs := #[]) (by have := egX #[] W; simp [execOp, go_sem, resolve, invoke, go_sem] <;> exact this) ((HC9.out W hIW).mono fun e w' h => (⟨_, h.1, rfl, h.2⟩ : ∃ v, e = .returned v ∧ (v = .bool true ∧ J w'))) ?_
          rintro v w' ⟨rfl, hI'⟩
          exact ⟨hI', fun _ h => h, Or.inl ⟨_, by decide, rfl, updF_same _ _ _⟩⟩
        | 19, _, hdep =>
          have E82 : a1.tmps[82]?.getD undef = .bool true := by rw [← ha1]; exact (putsL_in2 _ _ _ _ (by decide) (show 82 < 85 from by decide)).trans (hdep 17 (by kernel_rfl))
          have E83 : a1.tmps[83]?.getD undef = .bool true := by rw [← ha1]; exact (putsL_in2 _ _ _ _ (by decide) (show 83 < 85 from by decide)).trans (hdep 18 (by kernel_rfl))
          exact wpOp_val rfl rfl (v := .bool true) (w' := W) (by simp [execOp, go_sem, E82, E83]) ⟨hIW, fun _ h => h, Or.inl ⟨_, by decide, rfl, updF_same _ _ _⟩⟩
        | 20, _, hdep =>
          have E84 : a1.tmps[84]?.getD undef = .bool true := by rw [← ha1]; exact (putsL_in2 _ _ _ _ (by decide) (show 84 < 85 from by decide)).trans (hdep 19 (by kernel_rfl))
          exact wpOp_val rfl rfl (v := .bool true) (w' := W) (by simp [execOp, go_sem, E84]) ⟨hIW, fun _ h => h, Or.inl ⟨_, by decide, rfl, updF_same _ _ _⟩⟩
        | iq + 21, h, _ => exact absurd h (by omega)
      case refine_2 =>
        intro f W hIW hR
        have h2 : f 2 = .bool true := hR 20 (show 20 < 21 from by decide)
        simp only [putsL, List.foldl_cons, List.foldl_nil, Act.put, List.setIfInBounds_toArray, List.set_cons_zero, List.set_cons_succ]
        go_wp2
        go_ret
        first
          | exact ⟨rfl, HFIN.out _ hIW⟩
          | exact ⟨congrArg Ending.returned h2, HFIN.out _ hIW⟩

end Go.Proofs.Ytoelidndnajedaa
