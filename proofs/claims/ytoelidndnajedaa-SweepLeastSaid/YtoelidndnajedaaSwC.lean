/- Contracts of sweep's own small functions: find, balance, lastDay, and Check on right accounts and rules. -/
import Derived.Test.YtoelidndnajedaaAcZ
import Derived.Test.YtoelidndnajedaaRegInv
import Derived.Test.YtoelidndnajedaaSwK
import Derived.Deep.DeepCutAuto
set_option linter.unusedSimpArgs false
set_option linter.unusedVariables false
namespace Go.Proofs.Ytoelidndnajedaa
open Go.RowKit Go.Lib Go.Proofs

theorem kpF : Fields kpC 3 := ⟨fun _ => rfl, fun _ u hu => by simp only [kpC, List.mem_cons, List.mem_nil_iff, or_false] at hu; rcases hu with rfl | rfl | rfl <;> rfl, by decide⟩

theorem swfindC_any (b : Nat) (id : Int) (x : SubA) (W : World) (hb : W.cell? ⟨b, 0, none⟩ = some (.int .i64 id)) :
    Calls Try.prog 85 (#[.agg (subC x).toArray] ++ #[.pointer (some ⟨b, 0, none⟩)]) W fun e W' => e = .returned (.bool (decide (x.id = id))) ∧ Below W.heap.size W W' := by
  obtain ⟨x0, x1⟩ := x
  simp only [subC]
  have hbl : b < W.heap.size := by
    rcases Nat.lt_or_ge b W.heap.size with h | h
    · exact h
    · simp [World.cell?, Array.getElem?_eq_none h] at hb
  by_cases he : x0 = id
  · have h1 : (x0 == id) = true := by rw [beq_iff_eq]; exact he
    rw [show decide (x0 = id) = true from decide_eq_true he]
    clear he
    go_enter Try.func85, Try.ntmps85
    go_wp2
    go_ret
    exact ⟨rfl, below_alloc W _⟩
  · have h1 : (x0 == id) = false := by rw [beq_eq_false_iff_ne]; exact he
    rw [show decide (x0 = id) = false from decide_eq_false he]
    clear he
    go_enter Try.func85, Try.ntmps85
    go_wp2
    go_ret
    exact ⟨rfl, below_alloc W _⟩

set_option maxHeartbeats 1000000 in
theorem swfind_any (a : Acc) (su en : Value) (id : Int) (w : World) (h : SubsAt w su a.subs) (hlen : a.subs.length ≤ 1000000) :
    Calls Try.prog 77 #[.agg #[.int .i64 a.credit, su, en], .int .i64 id] w fun e w' => e = .returned (.int .i64 (atI a.subs id)) ∧ Below w.heap.size w w' := by
  have eg := enters_of Try.func85 (by kernel_rfl) rfl
  have HB0 := Lib.hid (below2 w (.cells #[.int .i64 a.credit, su, en] 28) (.cells #[.int .i64 id] 3))
  have H := Lib.hid (subIndex_any 85 #[.pointer (some ⟨w.heap.size + 1, 0, none⟩)] eg (fun x => decide (x.id = id)) a.subs su ((w.alloc (.cells #[.int .i64 a.credit, su, en] 28)).alloc (.cells #[.int .i64 id] 3)) (subs_list.1 (h.below HB0.out)) hlen (fun x _ W hW => swfindC_any _ id x W (by
    rw [hW.cell (p := ⟨w.heap.size + 1, 0, none⟩) (by simp)]
    exact obj_cell (alloc2_at w _ _) 0)))
  clear h
  go_enter Try.func77, Try.ntmps77
  go_wp2_with fail
  refine (H.out).mono ?_
  rintro e w1 ⟨i, rfl, hi, hb⟩
  have HI := Lib.hid (index_at hi)
  have HB := Lib.hid (HB0.out.trans (hb.mono (by simp; omega)))
  clear hi hb
  go_wp2
  go_ret
  exact ⟨ret_int HI.out, HB.out⟩

set_option maxRecDepth 100000 in
set_option maxHeartbeats 4000000 in
theorem swbalance_any (a : Acc) (su en : Value) (id : Int) (w : World) (h : SubsAt w su a.subs) (hlen : a.subs.length ≤ 1000000) (hat : (atS a.subs id).isSome = true) :
    Calls Try.prog 58 #[.agg #[.int .i64 a.credit, su, en], .int .i64 id] w fun e w' => e = .returned (.int .i64 (balOf a.subs id)) ∧ Below w.heap.size w w' := by
  obtain ⟨i, hi⟩ := Option.isSome_iff_exists.1 hat
  have hil := (atS_some hi).1
  obtain ⟨r, hr⟩ : ∃ r, r = balOf a.subs id := ⟨_, rfl⟩
  have hri : r = (subAt a.subs i).bal := hr.trans (by unfold balOf; rw [hi])
  have hai : atI a.subs id = (i : Int) := by unfold atI; rw [hi]
  rw [← hr]
  have HF0 := Lib.hid (fun su W (hs : SubsAt W su a.subs) => swfind_any a su en id W hs hlen)
  rw [hai] at HF0
  obtain ⟨bA, hbA⟩ : ∃ bA, bA = w.heap.size := ⟨_, rfl⟩
  obtain ⟨w0, hw0⟩ : ∃ w0, w0 = w.alloc (.cells #[.int .i64 a.credit, su, en] 28) := ⟨_, rfl⟩
  have HX0 : Hid (w0.heap[bA]? = some (.cells #[.int .i64 a.credit, su, en] 28 (0, 0))) := Lib.hid (by rw [hw0, hbA]; exact heap_alloc_new w _)
  have HB0 : Hid (Below w.heap.size w w0) := Lib.hid (by rw [hw0]; exact below_alloc w _)
  have h0 := h.below HB0.out
  rcases h.open with ⟨h1, -⟩ | ⟨hpos, b, o, cap, rfl, hcap, hb, hcc⟩
  · rw [h1] at hil; simp at hil
  obtain ⟨n, hn⟩ : ∃ n, n = a.subs.length := ⟨_, rfl⟩
  rw [← hn] at hil hcap h0 HX0 hw0 ⊢
  have HS0 := Lib.hid h0
  have hi0 : (0 : Int) ≤ (i : Int) := by omega
  have hi1 : (i : Int) < (n : Int) := by omega
  obtain ⟨J, hJ⟩ : ∃ J, J = fun W : World => Below w0.heap.size w0 W := ⟨_, rfl⟩
  have HJO : Hid (∀ W, J W → Below w0.heap.size w0 W) := Lib.hid fun W hW => by rw [hJ] at hW; exact hW
  have HJI : Hid (∀ W, Below w0.heap.size w0 W → J W) := Lib.hid fun W hW => by rw [hJ]; exact hW
  have HJD : Hid (∀ W, J W → J W.drew) := Lib.hid fun W hW => HJI.out _ ((HJO.out W hW).drew)
  have HJ0 : Hid (J w0) := Lib.hid (HJI.out _ (Below.refl _ _))
  have HCL : Hid (∀ W, J W → ∀ j, W.cell? ⟨bA, j, none⟩ = #[.int .i64 a.credit, .slice (some ⟨b, o, none⟩) n cap, en][j]?) := Lib.hid fun W hW j => obj_cell (obj_below HX0.out (HJO.out W hW)) j
  have HC1 : Hid (∀ W, J W → W.cell? ⟨b, o + i * 2 + 1, none⟩ = some (.int .i64 r)) := Lib.hid fun W hW => by
    rw [(HJO.out W hW).cell (p := ⟨b, o + i * 2 + 1, none⟩) (Nat.lt_of_lt_of_le hb HB0.out.size), HB0.out.cell (p := ⟨b, o + i * 2 + 1, none⟩) hb, (hcc i (by omega)).2, hri]
  have HF : Hid (∀ W, J W → Calls Try.prog 77 #[.agg #[.int .i64 a.credit, .slice (some ⟨b, o, none⟩) n cap, en], .int .i64 id] W fun e w' => e = .returned (.int .i64 (i : Int)) ∧ J w') := Lib.hid fun W hW =>
    (HF0.out _ W (HS0.out.below (HJO.out W hW))).mono fun e w' g => ⟨g.1, HJI.out _ ((HJO.out W hW).trans (g.2.mono (HJO.out W hW).size))⟩
  have HFIN : Hid (∀ W, J W → Below w.heap.size w W) := Lib.hid fun W hW => HB0.out.trans ((HJO.out W hW).mono HB0.out.size)
  have egF := enters_of Try.func77 (by kernel_rfl) rfl
  clear hJ h0 hcc hcap hpos hr hri hai hat hi HF0 HX0 HB0 HS0 HJO HJI hn hlen hil h
  go_enter Try.func58, Try.ntmps58
  go_upto_region 1 with fail
  rw [← hbA, ← hw0]
  refine wp_region_props [5, 6, 7, 8, 9, 10, 11, 12, 4] (slotS [5, 6, 7, 8, 9, 10, 11, 12, 4]) (readsS [5, 6, 7, 8, 9, 10, 11, 12, 4]) (RTs [5, 6, 7, 8, 9, 10, 11, 12, 4] [.pointer (some ⟨bA, 1, none⟩), .slice (some ⟨b, o, none⟩) n cap, .agg #[.int .i64 a.credit, .slice (some ⟨b, o, none⟩) n cap, en], .int .i64 id, .int .i64 (i : Int), .pointer (some ⟨b, o + i * 2, none⟩), .pointer (some ⟨b, o + i * 2 + 1, none⟩), .int .i64 r, .int .i64 r]) J (by kernel_rfl) (by kernel_rfl) (by kernel_rfl) (HJD.out _ HJ0.out) (fun j f q v W hq h => RTs.upd hq h) ?_ ?_
  case refine_1 =>
    intro iq hiq f W hIW hdep
    have hiq' : iq < 9 := hiq
    generalize ha1 : putsL _ [5, 6, 7, 8, 9, 10, 11, 12, 4] f = a1
    match iq, hiq', hdep with
    | 0, _, hdep =>
      have E2 : a1.tmps[2]?.getD undef = .pointer (some ⟨bA, 0, none⟩) := by rw [← ha1]; exact (putsL_out2 _ _ _ _ (by decide)).trans rfl
      exact wpOp_val rfl rfl (v := .pointer (some ⟨bA, 1, none⟩)) (w' := W) (by simp [execOp, go_sem, E2]) ⟨hIW, fun _ h => h, Or.inl ⟨_, by decide, rfl, updF_same _ _ _⟩⟩
    | 1, _, hdep =>
      have E5 : a1.tmps[5]?.getD undef = .pointer (some ⟨bA, 1, none⟩) := by rw [← ha1]; exact (putsL_in2 _ _ _ _ (by decide) (show 5 < 13 from by decide)).trans (hdep 0 (by kernel_rfl))
      have v1 : W.cell? ⟨bA, 1, none⟩ = some (.slice (some ⟨b, o, none⟩) n cap) := by simpa using HCL.out W hIW 1
      exact wpOp_val rfl rfl (v := .slice (some ⟨b, o, none⟩) n cap) (w' := W) (by simp [execOp, go_sem, E5, v1]) ⟨hIW, fun _ h => h, Or.inl ⟨_, by decide, rfl, updF_same _ _ _⟩⟩
    | 2, _, hdep =>
      have E2 : a1.tmps[2]?.getD undef = .pointer (some ⟨bA, 0, none⟩) := by rw [← ha1]; exact (putsL_out2 _ _ _ _ (by decide)).trans rfl
      have v0 : W.cell? ⟨bA, 0, none⟩ = some (.int .i64 a.credit) := by simpa using HCL.out W hIW 0
      have v1 : W.cell? ⟨bA, 1, none⟩ = some (.slice (some ⟨b, o, none⟩) n cap) := by simpa using HCL.out W hIW 1
      have v2 : W.cell? ⟨bA, 2, none⟩ = some (en) := by simpa using HCL.out W hIW 2
      exact wpOp_val rfl rfl (v := .agg #[.int .i64 a.credit, .slice (some ⟨b, o, none⟩) n cap, en]) (w' := W) (by simp [execOp, go_sem, E2, v0, v1, v2]) ⟨hIW, fun _ h => h, Or.inl ⟨_, by decide, rfl, updF_same _ _ _⟩⟩
    | 3, _, hdep =>
      have E1 : a1.tmps[1]?.getD undef = .int .i64 id := by rw [← ha1]; exact (putsL_out2 _ _ _ _ (by decide)).trans rfl
      exact wpOp_val rfl rfl (v := .int .i64 id) (w' := W) (by simp [execOp, go_sem, E1]) ⟨hIW, fun _ h => h, Or.inl ⟨_, by decide, rfl, updF_same _ _ _⟩⟩
    | 4, _, hdep =>
      have E7 : a1.tmps[7]?.getD undef = .agg #[.int .i64 a.credit, .slice (some ⟨b, o, none⟩) n cap, en] := by rw [← ha1]; exact (putsL_in2 _ _ _ _ (by decide) (show 7 < 13 from by decide)).trans (hdep 2 (by kernel_rfl))
      have E8 : a1.tmps[8]?.getD undef = .int .i64 id := by rw [← ha1]; exact (putsL_in2 _ _ _ _ (by decide) (show 8 < 13 from by decide)).trans (hdep 3 (by kernel_rfl))
      refine wpOp_call rfl rfl (n := 77) (vs := #[.agg #[.int .i64 a.credit, .slice (some ⟨b, o, none⟩) n cap, en], .int .i64 id]) (by have := egF #[.agg #[.int .i64 a.credit, .slice (some ⟨b, o, none⟩) n cap, en], .int .i64 id] W; simp [execOp, E7, E8, resolve, invoke, go_sem] <;> exact this) ((HF.out W hIW).mono fun e w' h => (⟨_, h.1, rfl, h.2⟩ : ∃ v, e = .returned v ∧ (v = .int .i64 (i : Int) ∧ J w'))) ?_
      rintro v w' ⟨rfl, hI'⟩
      exact ⟨hI', fun _ h => h, Or.inl ⟨_, by decide, rfl, updF_same _ _ _⟩⟩
    | 5, _, hdep =>
      have E6 : a1.tmps[6]?.getD undef = .slice (some ⟨b, o, none⟩) n cap := by rw [← ha1]; exact (putsL_in2 _ _ _ _ (by decide) (show 6 < 13 from by decide)).trans (hdep 1 (by kernel_rfl))
      have E9 : a1.tmps[9]?.getD undef = .int .i64 (i : Int) := by rw [← ha1]; exact (putsL_in2 _ _ _ _ (by decide) (show 9 < 13 from by decide)).trans (hdep 4 (by kernel_rfl))
      exact wpOp_val rfl rfl (v := .pointer (some ⟨b, o + i * 2, none⟩)) (w' := W) (by simp [execOp, go_sem, E6, E9, hi0, hi1]) ⟨hIW, fun _ h => h, Or.inl ⟨_, by decide, rfl, updF_same _ _ _⟩⟩
    | 6, _, hdep =>
      have E10 : a1.tmps[10]?.getD undef = .pointer (some ⟨b, o + i * 2, none⟩) := by rw [← ha1]; exact (putsL_in2 _ _ _ _ (by decide) (show 10 < 13 from by decide)).trans (hdep 5 (by kernel_rfl))
      exact wpOp_val rfl rfl (v := .pointer (some ⟨b, o + i * 2 + 1, none⟩)) (w' := W) (by simp [execOp, go_sem, E10]) ⟨hIW, fun _ h => h, Or.inl ⟨_, by decide, rfl, updF_same _ _ _⟩⟩
    | 7, _, hdep =>
      have E11 : a1.tmps[11]?.getD undef = .pointer (some ⟨b, o + i * 2 + 1, none⟩) := by rw [← ha1]; exact (putsL_in2 _ _ _ _ (by decide) (show 11 < 13 from by decide)).trans (hdep 6 (by kernel_rfl))
      exact wpOp_val rfl rfl (v := .int .i64 r) (w' := W) (by simp [execOp, go_sem, E11, HC1.out W hIW]) ⟨hIW, fun _ h => h, Or.inl ⟨_, by decide, rfl, updF_same _ _ _⟩⟩
    | 8, _, hdep =>
      have E12 : a1.tmps[12]?.getD undef = .int .i64 r := by rw [← ha1]; exact (putsL_in2 _ _ _ _ (by decide) (show 12 < 13 from by decide)).trans (hdep 7 (by kernel_rfl))
      exact wpOp_val rfl rfl (v := .int .i64 r) (w' := W) (by simp [execOp, go_sem, E12]) ⟨hIW, fun _ h => h, Or.inl ⟨_, by decide, rfl, updF_same _ _ _⟩⟩
    | iq + 9, h, _ => exact absurd h (by omega)
  case refine_2 =>
    intro f W hIW hR
    have h4 : f 4 = .int .i64 r := hR 8 (show 8 < 9 from by decide)
    simp only [putsL, List.foldl_cons, List.foldl_nil, Act.put, List.setIfInBounds_toArray, List.set_cons_zero, List.set_cons_succ]
    go_wp2
    go_ret
    exact ⟨congrArg Ending.returned h4, HFIN.out _ hIW⟩

set_option maxHeartbeats 1000000 in
theorem swlastDay_any (es : List Ent) (cr : Int) (su en : Value) (w : World) (h : EntsAt w en es) (hlen : es.length ≤ 1000000) :
    Calls Try.prog 59 #[.agg #[.int .i64 cr, su, en]] w fun e w' => e = .returned (.int .i64 (lastE es).day) ∧ Below w.heap.size w w' := by
  rcases h.open with ⟨rfl, ao, cap, rfl⟩ | ⟨hpos, b, o, cap, rfl, hcap, hb, hc⟩
  · clear h hlen
    go_enter Try.func59, Try.ntmps59
    go_wp2
    go_ret
    exact ⟨rfl, below_alloc w _⟩
  · obtain ⟨m, hm⟩ : ∃ m, es.length = m + 1 := ⟨es.length - 1, by omega⟩
    have hl : lastE es = entAt es m := lastE_at hm
    rw [hl]
    have hcm := hc m (by omega)
    generalize entAt es m = x at *
    obtain ⟨x0, x1, x2, x3, x4, x5⟩ := x
    rw [hm] at hcap hlen ⊢
    have c1 := hcm 1 (by omega)
    simp [Ent.cells] at c1
    have hm0 : (0 : Int) ≤ (m : Int) := by omega
    clear hcm hc hl hm h hpos
    go_enter Try.func59, Try.ntmps59
    go_wp2
    go_ret
    exact ⟨rfl, below_alloc w _⟩


def keepAt (l : List Kp) (i : Nat) : Kp := l.getD i Kp.zero
theorem keepAt_get {l : List Kp} {i : Nat} (h : i < l.length) : keepAt l i = l[i] := by simp [keepAt, List.getD, List.getElem?_eq_getElem h]
theorem keepsB_get {l : List SubA} {ks : List Kp} (h : keepsB l 0 true ks = true) {k : Nat} (hk : k < ks.length) : (atS l (keepAt ks k).sub).isSome = true ∧ (keepAt ks k).sub ≠ 1 ∧ 0 ≤ (keepAt ks k).low ∧ (keepAt ks k).low ≤ (keepAt ks k).high ∧ (keepAt ks k).high ≤ 1000000000000 := by
  rw [keepAt_get hk]
  exact (keepsB_mem h _ (List.getElem_mem hk)).1
theorem keepsB_lt {l : List SubA} {ks : List Kp} (h : keepsB l 0 true ks = true) {k : Nat} (hk : k + 1 < ks.length) : (keepAt ks k).sub < (keepAt ks (k + 1)).sub := by
  rw [keepAt_get hk, keepAt_get (by omega)]
  exact List.pairwise_iff_getElem.1 (keepsB_pair h) _ _ _ _ (by omega)
abbrev KeepsAt (w : World) (v : Value) (l : List Kp) : Prop := ListAt kpC 3 w v l
theorem KeepsAt.open {w : World} {v : Value} {l : List Kp} (h : KeepsAt w v l) : ∃ ao cap, v = .slice ao l.length cap ∧ l.length ≤ cap ∧ (0 < l.length → ∃ b o, ao = some ⟨b, o, none⟩ ∧ b < w.heap.size ∧ ∀ i, i < l.length → ∀ j, j < 3 → w.cell? ⟨b, o + i * 3 + j, none⟩ = (kpC (keepAt l i))[j]?) := by
  obtain ⟨ao, cap, h1, h2, h3⟩ := ListAt.shape kpF h
  refine ⟨ao, cap, h1, h2, fun hp => ?_⟩
  obtain ⟨b, o, h4, h5, h6⟩ := h3 hp
  exact ⟨b, o, h4, h5, fun i hi j hj => by rw [keepAt_get hi]; exact h6 i hi j hj⟩

set_option maxRecDepth 100000 in
set_option maxHeartbeats 8000000 in
theorem swCheck_right (a : Acc) (ks : List Kp) (su en kv : Value) (w : World) (h : SubsAt w su a.subs) (he : EntsAt w en a.ents) (hk : KeepsAt w kv ks) (hkl : ks.length ≤ 1000) (hr : checkM a = 0) (hks : keepsB a.subs 0 true ks = true) :
    Calls Try.prog 43 #[.agg #[.int .i64 a.credit, su, en], kv] w fun e w' => e = .returned (.int .i64 0) ∧ Below w.heap.size w w' := by
  have hz := checkM_zero.1 hr
  have HCK := Lib.hid (fun W (hW : Below w.heap.size w W) => acCheck_any a su en W (h.below hW) (he.below hW) (by omega) (by omega))
  rw [hr] at HCK
  have HFD := Lib.hid (fun id W (hW : Below w.heap.size w W) => swfind_any a su en id W (h.below hW) (by omega))
  obtain ⟨ao, cap, rfl, hcap, hcs⟩ := hk.open
  have HCS := Lib.hid hcs
  obtain ⟨n, hn⟩ : ∃ n, n = ks.length := ⟨_, rfl⟩
  have HN := Lib.hid hn
  have HKS := Lib.hid hks
  rw [← hn] at hcap hkl ⊢
  obtain ⟨bA, hbA⟩ : ∃ bA, bA = w.heap.size := ⟨_, rfl⟩
  have HX0 := Lib.hid (heap_alloc_new w (.cells #[.int .i64 a.credit, su, en] 28))
  have HB0 := Lib.hid (below_alloc w (.cells #[.int .i64 a.credit, su, en] 28))
  have HBA := Lib.hid hbA
  clear hn hcs h he hk hz hr hks hbA
  go_enter Try.func43, Try.ntmps43
  go_wp2_with fail
  refine (HCK.out _ HB0.out).mono ?_
  rintro e w1 ⟨rfl, hb1⟩
  have HX1 : Hid (w1.heap[bA]? = some (.cells #[.int .i64 a.credit, su, en] 28 (0, 0))) := Lib.hid (by rw [HBA.out]; exact obj_below HX0.out hb1)
  have HB1 := Lib.hid (HB0.out.trans (hb1.mono HB0.out.size))
  rw [← HBA.out]
  clear hb1 HX0 HB0 HCK
  go_wp2
  go_loopw [15] (fun i wr => ∃ k : Nat, i = .int .i64 k ∧ k ≤ n ∧ Hid (Below w1.heap.size w1 wr)) (fun i _ => n - (RowKit.intOf i).toNat)
  case atStart => exact ⟨0, rfl, by omega, Lib.hid (Below.refl _ _)⟩
  case round =>
    obtain ⟨k, rfl, hkn, HB⟩ := hrel
    by_cases hlt : k < n
    · have hkl' : k < ks.length := by rw [← HN.out]; exact hlt
      obtain ⟨b, o, rfl, hb, hcc⟩ := HCS.out (by omega)
      have HWB := Lib.hid (HB1.out.trans (HB.out.mono HB1.out.size))
      obtain ⟨q1, q2, q3, q4, q5⟩ := keepsB_get HKS.out hkl'
      have hcell := fun j (hj : j < 3) => (HWB.out.cell (p := ⟨b, o + k * 3 + j, none⟩) hb).trans (hcc k hkl' j hj)
      have HPV : Hid (∀ m, k = m + 1 → ∃ y0, (∀ W, Below w.heap.size w W → W.cell? ⟨b, o + m * 3, none⟩ = some (.int .i64 y0)) ∧ y0 < (keepAt ks k).sub) := Lib.hid fun m hm => by
        subst hm
        exact ⟨_, fun W hW => (hW.cell (p := ⟨b, o + m * 3, none⟩) hb).trans (hcc m (by omega) 0 (by omega)), keepsB_lt HKS.out hkl'⟩
      obtain ⟨iS, hiS⟩ := Option.isSome_iff_exists.1 q1
      have hat : atI a.subs (keepAt ks k).sub = (iS : Int) := by unfold atI; rw [hiS]
      have HFX := Lib.hid (HFD.out (keepAt ks k).sub)
      rw [hat] at HFX
      generalize keepAt ks k = x at *
      obtain ⟨x0, x1, x2⟩ := x
      simp only at q1 q2 q3 q4 q5 HFX hat hiS HPV
      have c0 := hcell 0 (by omega)
      have c1 := hcell 1 (by omega)
      have c2 := hcell 2 (by omega)
      simp [kpC] at c0 c1 c2
      have hq1 : (x0 == 1) = false := by rw [beq_eq_false_iff_ne]; exact q2
      have hq2 : ¬ (iS : Int) < 0 := by omega
      have hq3 : ¬ x1 < 0 := by omega
      have hq4 : ¬ x2 < x1 := by omega
      have hq5 : ¬ (1000000000000 : Int) < x2 := by omega
      have hk0 : (0 : Int) ≤ (k : Int) := by omega
      have hk1 : (k : Int) < (n : Int) := by omega
      clear hcell hcc q1 q2 q3 q4 q5 hat hiS hkl'
      go_upto_region 7 with fail
      obtain ⟨w6, hw6⟩ : ∃ w6, w6 = wr.alloc (.cells #[.int .i64 x0, .int .i64 x1, .int .i64 x2] 50) := ⟨_, rfl⟩
      obtain ⟨bK, hbK⟩ : ∃ bK, bK = wr.heap.size := ⟨_, rfl⟩
      have HK6 : Hid (w6.heap[bK]? = some (.cells #[.int .i64 x0, .int .i64 x1, .int .i64 x2] 50 (0, 0))) := Lib.hid (by rw [hw6, hbK]; exact heap_alloc_new wr _)
      have HB6 : Hid (Below w1.heap.size w1 w6) := Lib.hid (by rw [hw6]; exact HB.out.alloc HB.out.size _)
      have HW6 := Lib.hid (HB1.out.trans (HB6.out.mono HB1.out.size))
      have HX6 := Lib.hid (obj_below HX1.out HB6.out)
      rw [← hw6, ← hbK]
      obtain ⟨J, hJ⟩ : ∃ J, J = fun W : World => Below w6.heap.size w6 W := ⟨_, rfl⟩
      have HJO : Hid (∀ W, J W → Below w6.heap.size w6 W) := Lib.hid fun W hW => by rw [hJ] at hW; exact hW
      have HJI : Hid (∀ W, Below w6.heap.size w6 W → J W) := Lib.hid fun W hW => by rw [hJ]; exact hW
      have HJD : Hid (∀ W, J W → J W.drew) := Lib.hid fun W hW => HJI.out _ ((HJO.out W hW).drew)
      have HJ0 : Hid (J w6) := Lib.hid (HJI.out _ (Below.refl _ _))
      have HCL : Hid (∀ W, J W → ∀ j, W.cell? ⟨bA, j, none⟩ = #[.int .i64 a.credit, su, en][j]?) := Lib.hid fun W hW j => obj_cell (obj_below HX6.out (HJO.out W hW)) j
      have HCK : Hid (∀ W, J W → ∀ j, W.cell? ⟨bK, j, none⟩ = #[.int .i64 x0, .int .i64 x1, .int .i64 x2][j]?) := Lib.hid fun W hW j => obj_cell (obj_below HK6.out (HJO.out W hW)) j
      have HFW : Hid (∀ W, J W → Below w.heap.size w W) := Lib.hid fun W hW => HW6.out.trans ((HJO.out W hW).mono HW6.out.size)
      have HFW1 : Hid (∀ W, J W → Below w1.heap.size w1 W) := Lib.hid fun W hW => HB6.out.trans ((HJO.out W hW).mono HB6.out.size)
      have HF : Hid (∀ W, J W → Calls Try.prog 77 #[.agg #[.int .i64 a.credit, su, en], .int .i64 x0] W fun e w' => e = .returned (.int .i64 (iS : Int)) ∧ J w') := Lib.hid fun W hW =>
        (HFX.out W (HFW.out W hW)).mono fun e w' g => ⟨g.1, HJI.out _ ((HJO.out W hW).trans (g.2.mono (HJO.out W hW).size))⟩
      have egF := enters_of Try.func77 (by kernel_rfl) rfl
      clear hJ hw6 hbK c0 c1 c2
      cases k with
      | zero =>
        have hq6 : ¬ (0 : Int) < 0 := by omega
        clear HPV
        go_cut [61] (fun c wx => c = .bool false ∧ Hid (J wx))
        case first =>
          refine wp_region_props [20, 21, 22, 23, 24, 25, 26, 27, 28, 29, 30, 31, 32, 33, 34, 35, 36, 37, 38, 39, 40, 41, 42, 43, 44, 45, 46, 47, 48, 49, 50, 51, 52, 53, 54, 55, 56, 57, 58, 59, 60, 61] (slotS [20, 21, 22, 23, 24, 25, 26, 27, 28, 29, 30, 31, 32, 33, 34, 35, 36, 37, 38, 39, 40, 41, 42, 43, 44, 45, 46, 47, 48, 49, 50, 51, 52, 53, 54, 55, 56, 57, 58, 59, 60, 61]) (readsS [20, 21, 22, 23, 24, 25, 26, 27, 28, 29, 30, 31, 32, 33, 34, 35, 36, 37, 38, 39, 40, 41, 42, 43, 44, 45, 46, 47, 48, 49, 50, 51, 52, 53, 54, 55, 56, 57, 58, 59, 60, 61]) (RTs [20, 21, 22, 23, 24, 25, 26, 27, 28, 29, 30, 31, 32, 33, 34, 35, 36, 37, 38, 39, 40, 41, 42, 43, 44, 45, 46, 47, 48, 49, 50, 51, 52, 53, 54, 55, 56, 57, 58, 59, 60, 61] [.pointer (some ⟨bK, 0, none⟩), .int .i64 x0, .bool false, .bool false, .agg #[.int .i64 a.credit, su, en], .pointer (some ⟨bK, 0, none⟩), .int .i64 x0, .int .i64 (iS : Int), .bool false, .bool false, .bool false, .pointer (some ⟨bK, 1, none⟩), .int .i64 x1, .bool false, .bool false, .bool false, .pointer (some ⟨bK, 1, none⟩), .int .i64 x1, .pointer (some ⟨bK, 2, none⟩), .int .i64 x2, .bool false, .bool false, .bool false, .pointer (some ⟨bK, 2, none⟩), .int .i64 x2, .bool false, .bool false, .bool false, .int .i64 0, .bool false, .bool false, undef, undef, undef, undef, undef, undef, undef, undef, undef, .bool false, .bool false]) J (by kernel_rfl) (by kernel_rfl) (by kernel_rfl) (HJD.out _ HJ0.out) (fun j f q v W hq h => RTs.upd hq h) ?_ ?_
          case refine_1 =>
            intro iq hiq f W hIW hdep
            have hiq' : iq < 42 := hiq
            generalize ha1 : putsL _ [20, 21, 22, 23, 24, 25, 26, 27, 28, 29, 30, 31, 32, 33, 34, 35, 36, 37, 38, 39, 40, 41, 42, 43, 44, 45, 46, 47, 48, 49, 50, 51, 52, 53, 54, 55, 56, 57, 58, 59, 60, 61] f = a1
            match iq, hiq', hdep with
            | 0, _, hdep =>
              have E7 : a1.tmps[7]?.getD undef = .pointer (some ⟨bK, 0, none⟩) := by rw [← ha1]; exact (putsL_out2 _ _ _ _ (by decide)).trans rfl
              exact wpOp_val rfl rfl (v := .pointer (some ⟨bK, 0, none⟩)) (w' := W) (by simp [execOp, go_sem, E7]) ⟨hIW, fun _ h => h, Or.inl ⟨_, by decide, rfl, updF_same _ _ _⟩⟩
            | 1, _, hdep =>
              have E20 : a1.tmps[20]?.getD undef = .pointer (some ⟨bK, 0, none⟩) := by rw [← ha1]; exact (putsL_in2 _ _ _ _ (by decide) (show 20 < 63 from by decide)).trans (hdep 0 (by kernel_rfl))
              have v0 : W.cell? ⟨bK, 0, none⟩ = some (.int .i64 x0) := by simpa using HCK.out W hIW 0
              exact wpOp_val rfl rfl (v := .int .i64 x0) (w' := W) (by simp [execOp, go_sem, E20, v0]) ⟨hIW, fun _ h => h, Or.inl ⟨_, by decide, rfl, updF_same _ _ _⟩⟩
            | 2, _, hdep =>
              have E21 : a1.tmps[21]?.getD undef = .int .i64 x0 := by rw [← ha1]; exact (putsL_in2 _ _ _ _ (by decide) (show 21 < 63 from by decide)).trans (hdep 1 (by kernel_rfl))
              exact wpOp_val rfl rfl (v := .bool false) (w' := W) (by simp [execOp, go_sem, E21, hq1]) ⟨hIW, fun _ h => h, Or.inl ⟨_, by decide, rfl, updF_same _ _ _⟩⟩
            | 3, _, hdep =>
              have E22 : a1.tmps[22]?.getD undef = .bool false := by rw [← ha1]; exact (putsL_in2 _ _ _ _ (by decide) (show 22 < 63 from by decide)).trans (hdep 2 (by kernel_rfl))
              exact wpOp_val rfl rfl (v := .bool false) (w' := W) (by simp [execOp, go_sem, E22]) ⟨hIW, fun _ h => h, Or.inl ⟨_, by decide, rfl, updF_same _ _ _⟩⟩
            | 4, _, hdep =>
              have G3 : a1.tmps[23]? = some (.bool false) := by rw [← ha1]; exact (putsL_some _ _ _ _ (by decide) (show 23 < 63 from by decide)).trans (congrArg some (hdep 3 (by kernel_rfl)))
              have E2 : a1.tmps[2]?.getD undef = .pointer (some ⟨bA, 0, none⟩) := by rw [← ha1]; exact (putsL_out2 _ _ _ _ (by decide)).trans rfl
              have v0 : W.cell? ⟨bA, 0, none⟩ = some (.int .i64 a.credit) := by simpa using HCL.out W hIW 0
              have v1 : W.cell? ⟨bA, 1, none⟩ = some (su) := by simpa using HCL.out W hIW 1
              have v2 : W.cell? ⟨bA, 2, none⟩ = some (en) := by simpa using HCL.out W hIW 2
              exact wpOp_valG rfl rfl (yielded_of rfl G3) (v := .agg #[.int .i64 a.credit, su, en]) (w' := W) (by simp [execOp, go_sem, E2, v0, v1, v2]) ⟨hIW, fun _ h => h, Or.inl ⟨_, by decide, rfl, updF_same _ _ _⟩⟩
            | 5, _, hdep =>
              have G3 : a1.tmps[23]? = some (.bool false) := by rw [← ha1]; exact (putsL_some _ _ _ _ (by decide) (show 23 < 63 from by decide)).trans (congrArg some (hdep 3 (by kernel_rfl)))
              have E7 : a1.tmps[7]?.getD undef = .pointer (some ⟨bK, 0, none⟩) := by rw [← ha1]; exact (putsL_out2 _ _ _ _ (by decide)).trans rfl
              exact wpOp_valG rfl rfl (yielded_of rfl G3) (v := .pointer (some ⟨bK, 0, none⟩)) (w' := W) (by simp [execOp, go_sem, E7]) ⟨hIW, fun _ h => h, Or.inl ⟨_, by decide, rfl, updF_same _ _ _⟩⟩
            | 6, _, hdep =>
              have G3 : a1.tmps[23]? = some (.bool false) := by rw [← ha1]; exact (putsL_some _ _ _ _ (by decide) (show 23 < 63 from by decide)).trans (congrArg some (hdep 3 (by kernel_rfl)))
              have E25 : a1.tmps[25]?.getD undef = .pointer (some ⟨bK, 0, none⟩) := by rw [← ha1]; exact (putsL_in2 _ _ _ _ (by decide) (show 25 < 63 from by decide)).trans (hdep 5 (by kernel_rfl))
              have v0 : W.cell? ⟨bK, 0, none⟩ = some (.int .i64 x0) := by simpa using HCK.out W hIW 0
              exact wpOp_valG rfl rfl (yielded_of rfl G3) (v := .int .i64 x0) (w' := W) (by simp [execOp, go_sem, E25, v0]) ⟨hIW, fun _ h => h, Or.inl ⟨_, by decide, rfl, updF_same _ _ _⟩⟩
            | 7, _, hdep =>
              have G3 : a1.tmps[23]? = some (.bool false) := by rw [← ha1]; exact (putsL_some _ _ _ _ (by decide) (show 23 < 63 from by decide)).trans (congrArg some (hdep 3 (by kernel_rfl)))
              have E24 : a1.tmps[24]?.getD undef = .agg #[.int .i64 a.credit, su, en] := by rw [← ha1]; exact (putsL_in2 _ _ _ _ (by decide) (show 24 < 63 from by decide)).trans (hdep 4 (by kernel_rfl))
              have E26 : a1.tmps[26]?.getD undef = .int .i64 x0 := by rw [← ha1]; exact (putsL_in2 _ _ _ _ (by decide) (show 26 < 63 from by decide)).trans (hdep 6 (by kernel_rfl))
              refine wpOp_callG rfl rfl (yielded_of rfl G3) (n := 77) (vs := #[.agg #[.int .i64 a.credit, su, en], .int .i64 x0]) (by have := egF #[.agg #[.int .i64 a.credit, su, en], .int .i64 x0] W; simp [execOp, E24, E26, resolve, invoke, go_sem] <;> exact this) ((HF.out W hIW).mono fun e w' h => (⟨_, h.1, rfl, h.2⟩ : ∃ v, e = .returned v ∧ (v = .int .i64 (iS : Int) ∧ J w'))) ?_
              rintro v w' ⟨rfl, hI'⟩
              exact ⟨hI', fun _ h => h, Or.inl ⟨_, by decide, rfl, updF_same _ _ _⟩⟩
            | 8, _, hdep =>
              have G3 : a1.tmps[23]? = some (.bool false) := by rw [← ha1]; exact (putsL_some _ _ _ _ (by decide) (show 23 < 63 from by decide)).trans (congrArg some (hdep 3 (by kernel_rfl)))
              have E27 : a1.tmps[27]?.getD undef = .int .i64 (iS : Int) := by rw [← ha1]; exact (putsL_in2 _ _ _ _ (by decide) (show 27 < 63 from by decide)).trans (hdep 7 (by kernel_rfl))
              exact wpOp_valG rfl rfl (yielded_of rfl G3) (v := .bool false) (w' := W) (by simp [execOp, go_sem, E27, hq2]) ⟨hIW, fun _ h => h, Or.inl ⟨_, by decide, rfl, updF_same _ _ _⟩⟩
            | 9, _, hdep =>
              have E23 : a1.tmps[23]?.getD undef = .bool false := by rw [← ha1]; exact (putsL_in2 _ _ _ _ (by decide) (show 23 < 63 from by decide)).trans (hdep 3 (by kernel_rfl))
              have E28 : a1.tmps[28]?.getD undef = .bool false := by rw [← ha1]; exact (putsL_in2 _ _ _ _ (by decide) (show 28 < 63 from by decide)).trans (hdep 8 (by kernel_rfl))
              exact wpOp_val rfl rfl (v := .bool false) (w' := W) (by simp [execOp, go_sem, E23, E28]) ⟨hIW, fun _ h => h, Or.inl ⟨_, by decide, rfl, updF_same _ _ _⟩⟩
            | 10, _, hdep =>
              have E29 : a1.tmps[29]?.getD undef = .bool false := by rw [← ha1]; exact (putsL_in2 _ _ _ _ (by decide) (show 29 < 63 from by decide)).trans (hdep 9 (by kernel_rfl))
              exact wpOp_val rfl rfl (v := .bool false) (w' := W) (by simp [execOp, go_sem, E29]) ⟨hIW, fun _ h => h, Or.inl ⟨_, by decide, rfl, updF_same _ _ _⟩⟩
            | 11, _, hdep =>
              have G10 : a1.tmps[30]? = some (.bool false) := by rw [← ha1]; exact (putsL_some _ _ _ _ (by decide) (show 30 < 63 from by decide)).trans (congrArg some (hdep 10 (by kernel_rfl)))
              have E7 : a1.tmps[7]?.getD undef = .pointer (some ⟨bK, 0, none⟩) := by rw [← ha1]; exact (putsL_out2 _ _ _ _ (by decide)).trans rfl
              exact wpOp_valG rfl rfl (yielded_of rfl G10) (v := .pointer (some ⟨bK, 1, none⟩)) (w' := W) (by simp [execOp, go_sem, E7]) ⟨hIW, fun _ h => h, Or.inl ⟨_, by decide, rfl, updF_same _ _ _⟩⟩
            | 12, _, hdep =>
              have G10 : a1.tmps[30]? = some (.bool false) := by rw [← ha1]; exact (putsL_some _ _ _ _ (by decide) (show 30 < 63 from by decide)).trans (congrArg some (hdep 10 (by kernel_rfl)))
              have E31 : a1.tmps[31]?.getD undef = .pointer (some ⟨bK, 1, none⟩) := by rw [← ha1]; exact (putsL_in2 _ _ _ _ (by decide) (show 31 < 63 from by decide)).trans (hdep 11 (by kernel_rfl))
              have v1 : W.cell? ⟨bK, 1, none⟩ = some (.int .i64 x1) := by simpa using HCK.out W hIW 1
              exact wpOp_valG rfl rfl (yielded_of rfl G10) (v := .int .i64 x1) (w' := W) (by simp [execOp, go_sem, E31, v1]) ⟨hIW, fun _ h => h, Or.inl ⟨_, by decide, rfl, updF_same _ _ _⟩⟩
            | 13, _, hdep =>
              have G10 : a1.tmps[30]? = some (.bool false) := by rw [← ha1]; exact (putsL_some _ _ _ _ (by decide) (show 30 < 63 from by decide)).trans (congrArg some (hdep 10 (by kernel_rfl)))
              have E32 : a1.tmps[32]?.getD undef = .int .i64 x1 := by rw [← ha1]; exact (putsL_in2 _ _ _ _ (by decide) (show 32 < 63 from by decide)).trans (hdep 12 (by kernel_rfl))
              exact wpOp_valG rfl rfl (yielded_of rfl G10) (v := .bool false) (w' := W) (by simp [execOp, go_sem, E32, hq3]) ⟨hIW, fun _ h => h, Or.inl ⟨_, by decide, rfl, updF_same _ _ _⟩⟩
            | 14, _, hdep =>
              have E30 : a1.tmps[30]?.getD undef = .bool false := by rw [← ha1]; exact (putsL_in2 _ _ _ _ (by decide) (show 30 < 63 from by decide)).trans (hdep 10 (by kernel_rfl))
              have E33 : a1.tmps[33]?.getD undef = .bool false := by rw [← ha1]; exact (putsL_in2 _ _ _ _ (by decide) (show 33 < 63 from by decide)).trans (hdep 13 (by kernel_rfl))
              exact wpOp_val rfl rfl (v := .bool false) (w' := W) (by simp [execOp, go_sem, E30, E33]) ⟨hIW, fun _ h => h, Or.inl ⟨_, by decide, rfl, updF_same _ _ _⟩⟩
            | 15, _, hdep =>
              have E34 : a1.tmps[34]?.getD undef = .bool false := by rw [← ha1]; exact (putsL_in2 _ _ _ _ (by decide) (show 34 < 63 from by decide)).trans (hdep 14 (by kernel_rfl))
              exact wpOp_val rfl rfl (v := .bool false) (w' := W) (by simp [execOp, go_sem, E34]) ⟨hIW, fun _ h => h, Or.inl ⟨_, by decide, rfl, updF_same _ _ _⟩⟩
            | 16, _, hdep =>
              have G15 : a1.tmps[35]? = some (.bool false) := by rw [← ha1]; exact (putsL_some _ _ _ _ (by decide) (show 35 < 63 from by decide)).trans (congrArg some (hdep 15 (by kernel_rfl)))
              have E7 : a1.tmps[7]?.getD undef = .pointer (some ⟨bK, 0, none⟩) := by rw [← ha1]; exact (putsL_out2 _ _ _ _ (by decide)).trans rfl
              exact wpOp_valG rfl rfl (yielded_of rfl G15) (v := .pointer (some ⟨bK, 1, none⟩)) (w' := W) (by simp [execOp, go_sem, E7]) ⟨hIW, fun _ h => h, Or.inl ⟨_, by decide, rfl, updF_same _ _ _⟩⟩
            | 17, _, hdep =>
              have G15 : a1.tmps[35]? = some (.bool false) := by rw [← ha1]; exact (putsL_some _ _ _ _ (by decide) (show 35 < 63 from by decide)).trans (congrArg some (hdep 15 (by kernel_rfl)))
              have E36 : a1.tmps[36]?.getD undef = .pointer (some ⟨bK, 1, none⟩) := by rw [← ha1]; exact (putsL_in2 _ _ _ _ (by decide) (show 36 < 63 from by decide)).trans (hdep 16 (by kernel_rfl))
              have v1 : W.cell? ⟨bK, 1, none⟩ = some (.int .i64 x1) := by simpa using HCK.out W hIW 1
              exact wpOp_valG rfl rfl (yielded_of rfl G15) (v := .int .i64 x1) (w' := W) (by simp [execOp, go_sem, E36, v1]) ⟨hIW, fun _ h => h, Or.inl ⟨_, by decide, rfl, updF_same _ _ _⟩⟩
            | 18, _, hdep =>
              have G15 : a1.tmps[35]? = some (.bool false) := by rw [← ha1]; exact (putsL_some _ _ _ _ (by decide) (show 35 < 63 from by decide)).trans (congrArg some (hdep 15 (by kernel_rfl)))
              have E7 : a1.tmps[7]?.getD undef = .pointer (some ⟨bK, 0, none⟩) := by rw [← ha1]; exact (putsL_out2 _ _ _ _ (by decide)).trans rfl
              exact wpOp_valG rfl rfl (yielded_of rfl G15) (v := .pointer (some ⟨bK, 2, none⟩)) (w' := W) (by simp [execOp, go_sem, E7]) ⟨hIW, fun _ h => h, Or.inl ⟨_, by decide, rfl, updF_same _ _ _⟩⟩
            | 19, _, hdep =>
              have G15 : a1.tmps[35]? = some (.bool false) := by rw [← ha1]; exact (putsL_some _ _ _ _ (by decide) (show 35 < 63 from by decide)).trans (congrArg some (hdep 15 (by kernel_rfl)))
              have E38 : a1.tmps[38]?.getD undef = .pointer (some ⟨bK, 2, none⟩) := by rw [← ha1]; exact (putsL_in2 _ _ _ _ (by decide) (show 38 < 63 from by decide)).trans (hdep 18 (by kernel_rfl))
              have v2 : W.cell? ⟨bK, 2, none⟩ = some (.int .i64 x2) := by simpa using HCK.out W hIW 2
              exact wpOp_valG rfl rfl (yielded_of rfl G15) (v := .int .i64 x2) (w' := W) (by simp [execOp, go_sem, E38, v2]) ⟨hIW, fun _ h => h, Or.inl ⟨_, by decide, rfl, updF_same _ _ _⟩⟩
            | 20, _, hdep =>
              have G15 : a1.tmps[35]? = some (.bool false) := by rw [← ha1]; exact (putsL_some _ _ _ _ (by decide) (show 35 < 63 from by decide)).trans (congrArg some (hdep 15 (by kernel_rfl)))
              have E37 : a1.tmps[37]?.getD undef = .int .i64 x1 := by rw [← ha1]; exact (putsL_in2 _ _ _ _ (by decide) (show 37 < 63 from by decide)).trans (hdep 17 (by kernel_rfl))
              have E39 : a1.tmps[39]?.getD undef = .int .i64 x2 := by rw [← ha1]; exact (putsL_in2 _ _ _ _ (by decide) (show 39 < 63 from by decide)).trans (hdep 19 (by kernel_rfl))
              exact wpOp_valG rfl rfl (yielded_of rfl G15) (v := .bool false) (w' := W) (by simp [execOp, go_sem, E37, E39, hq4]) ⟨hIW, fun _ h => h, Or.inl ⟨_, by decide, rfl, updF_same _ _ _⟩⟩
            | 21, _, hdep =>
              have E35 : a1.tmps[35]?.getD undef = .bool false := by rw [← ha1]; exact (putsL_in2 _ _ _ _ (by decide) (show 35 < 63 from by decide)).trans (hdep 15 (by kernel_rfl))
              have E40 : a1.tmps[40]?.getD undef = .bool false := by rw [← ha1]; exact (putsL_in2 _ _ _ _ (by decide) (show 40 < 63 from by decide)).trans (hdep 20 (by kernel_rfl))
              exact wpOp_val rfl rfl (v := .bool false) (w' := W) (by simp [execOp, go_sem, E35, E40]) ⟨hIW, fun _ h => h, Or.inl ⟨_, by decide, rfl, updF_same _ _ _⟩⟩
            | 22, _, hdep =>
              have E41 : a1.tmps[41]?.getD undef = .bool false := by rw [← ha1]; exact (putsL_in2 _ _ _ _ (by decide) (show 41 < 63 from by decide)).trans (hdep 21 (by kernel_rfl))
              exact wpOp_val rfl rfl (v := .bool false) (w' := W) (by simp [execOp, go_sem, E41]) ⟨hIW, fun _ h => h, Or.inl ⟨_, by decide, rfl, updF_same _ _ _⟩⟩
            | 23, _, hdep =>
              have G22 : a1.tmps[42]? = some (.bool false) := by rw [← ha1]; exact (putsL_some _ _ _ _ (by decide) (show 42 < 63 from by decide)).trans (congrArg some (hdep 22 (by kernel_rfl)))
              have E7 : a1.tmps[7]?.getD undef = .pointer (some ⟨bK, 0, none⟩) := by rw [← ha1]; exact (putsL_out2 _ _ _ _ (by decide)).trans rfl
              exact wpOp_valG rfl rfl (yielded_of rfl G22) (v := .pointer (some ⟨bK, 2, none⟩)) (w' := W) (by simp [execOp, go_sem, E7]) ⟨hIW, fun _ h => h, Or.inl ⟨_, by decide, rfl, updF_same _ _ _⟩⟩
            | 24, _, hdep =>
              have G22 : a1.tmps[42]? = some (.bool false) := by rw [← ha1]; exact (putsL_some _ _ _ _ (by decide) (show 42 < 63 from by decide)).trans (congrArg some (hdep 22 (by kernel_rfl)))
              have E43 : a1.tmps[43]?.getD undef = .pointer (some ⟨bK, 2, none⟩) := by rw [← ha1]; exact (putsL_in2 _ _ _ _ (by decide) (show 43 < 63 from by decide)).trans (hdep 23 (by kernel_rfl))
              have v2 : W.cell? ⟨bK, 2, none⟩ = some (.int .i64 x2) := by simpa using HCK.out W hIW 2
              exact wpOp_valG rfl rfl (yielded_of rfl G22) (v := .int .i64 x2) (w' := W) (by simp [execOp, go_sem, E43, v2]) ⟨hIW, fun _ h => h, Or.inl ⟨_, by decide, rfl, updF_same _ _ _⟩⟩
            | 25, _, hdep =>
              have G22 : a1.tmps[42]? = some (.bool false) := by rw [← ha1]; exact (putsL_some _ _ _ _ (by decide) (show 42 < 63 from by decide)).trans (congrArg some (hdep 22 (by kernel_rfl)))
              have E44 : a1.tmps[44]?.getD undef = .int .i64 x2 := by rw [← ha1]; exact (putsL_in2 _ _ _ _ (by decide) (show 44 < 63 from by decide)).trans (hdep 24 (by kernel_rfl))
              exact wpOp_valG rfl rfl (yielded_of rfl G22) (v := .bool false) (w' := W) (by simp [execOp, go_sem, E44, hq5]) ⟨hIW, fun _ h => h, Or.inl ⟨_, by decide, rfl, updF_same _ _ _⟩⟩
            | 26, _, hdep =>
              have E42 : a1.tmps[42]?.getD undef = .bool false := by rw [← ha1]; exact (putsL_in2 _ _ _ _ (by decide) (show 42 < 63 from by decide)).trans (hdep 22 (by kernel_rfl))
              have E45 : a1.tmps[45]?.getD undef = .bool false := by rw [← ha1]; exact (putsL_in2 _ _ _ _ (by decide) (show 45 < 63 from by decide)).trans (hdep 25 (by kernel_rfl))
              exact wpOp_val rfl rfl (v := .bool false) (w' := W) (by simp [execOp, go_sem, E42, E45]) ⟨hIW, fun _ h => h, Or.inl ⟨_, by decide, rfl, updF_same _ _ _⟩⟩
            | 27, _, hdep =>
              have E46 : a1.tmps[46]?.getD undef = .bool false := by rw [← ha1]; exact (putsL_in2 _ _ _ _ (by decide) (show 46 < 63 from by decide)).trans (hdep 26 (by kernel_rfl))
              exact wpOp_val rfl rfl (v := .bool false) (w' := W) (by simp [execOp, go_sem, E46]) ⟨hIW, fun _ h => h, Or.inl ⟨_, by decide, rfl, updF_same _ _ _⟩⟩
            | 28, _, hdep =>
              have G27 : a1.tmps[47]? = some (.bool false) := by rw [← ha1]; exact (putsL_some _ _ _ _ (by decide) (show 47 < 63 from by decide)).trans (congrArg some (hdep 27 (by kernel_rfl)))
              have E6 : a1.tmps[6]?.getD undef = .int .i64 0 := by rw [← ha1]; exact (putsL_out2 _ _ _ _ (by decide)).trans rfl
              exact wpOp_valG rfl rfl (yielded_of rfl G27) (v := .int .i64 0) (w' := W) (by simp [execOp, go_sem, E6]) ⟨hIW, fun _ h => h, Or.inl ⟨_, by decide, rfl, updF_same _ _ _⟩⟩
            | 29, _, hdep =>
              have G27 : a1.tmps[47]? = some (.bool false) := by rw [← ha1]; exact (putsL_some _ _ _ _ (by decide) (show 47 < 63 from by decide)).trans (congrArg some (hdep 27 (by kernel_rfl)))
              have E48 : a1.tmps[48]?.getD undef = .int .i64 0 := by rw [← ha1]; exact (putsL_in2 _ _ _ _ (by decide) (show 48 < 63 from by decide)).trans (hdep 28 (by kernel_rfl))
              exact wpOp_valG rfl rfl (yielded_of rfl G27) (v := .bool false) (w' := W) (by simp [execOp, go_sem, E48, hq6]) ⟨hIW, fun _ h => h, Or.inl ⟨_, by decide, rfl, updF_same _ _ _⟩⟩
            | 30, _, hdep =>
              have G27 : a1.tmps[47]? = some (.bool false) := by rw [← ha1]; exact (putsL_some _ _ _ _ (by decide) (show 47 < 63 from by decide)).trans (congrArg some (hdep 27 (by kernel_rfl)))
              have E49 : a1.tmps[49]?.getD undef = .bool false := by rw [← ha1]; exact (putsL_in2 _ _ _ _ (by decide) (show 49 < 63 from by decide)).trans (hdep 29 (by kernel_rfl))
              exact wpOp_valG rfl rfl (yielded_of rfl G27) (v := .bool false) (w' := W) (by simp [execOp, go_sem, E49]) ⟨hIW, fun _ h => h, Or.inl ⟨_, by decide, rfl, updF_same _ _ _⟩⟩
            | 31, _, hdep =>
              have G30 : a1.tmps[50]? = some (.bool false) := by rw [← ha1]; exact (putsL_some _ _ _ _ (by decide) (show 50 < 63 from by decide)).trans (congrArg some (hdep 30 (by kernel_rfl)))
              exact wpOp_off rfl rfl (yielded_of rfl G30) ⟨hIW, fun _ h => h, Or.inl ⟨_, by decide, rfl, updF_same _ _ _⟩⟩
            | 32, _, hdep =>
              have G30 : a1.tmps[50]? = some (.bool false) := by rw [← ha1]; exact (putsL_some _ _ _ _ (by decide) (show 50 < 63 from by decide)).trans (congrArg some (hdep 30 (by kernel_rfl)))
              exact wpOp_off rfl rfl (yielded_of rfl G30) ⟨hIW, fun _ h => h, Or.inl ⟨_, by decide, rfl, updF_same _ _ _⟩⟩
            | 33, _, hdep =>
              have G30 : a1.tmps[50]? = some (.bool false) := by rw [← ha1]; exact (putsL_some _ _ _ _ (by decide) (show 50 < 63 from by decide)).trans (congrArg some (hdep 30 (by kernel_rfl)))
              exact wpOp_off rfl rfl (yielded_of rfl G30) ⟨hIW, fun _ h => h, Or.inl ⟨_, by decide, rfl, updF_same _ _ _⟩⟩
            | 34, _, hdep =>
              have G30 : a1.tmps[50]? = some (.bool false) := by rw [← ha1]; exact (putsL_some _ _ _ _ (by decide) (show 50 < 63 from by decide)).trans (congrArg some (hdep 30 (by kernel_rfl)))
              exact wpOp_off rfl rfl (yielded_of rfl G30) ⟨hIW, fun _ h => h, Or.inl ⟨_, by decide, rfl, updF_same _ _ _⟩⟩
            | 35, _, hdep =>
              have G30 : a1.tmps[50]? = some (.bool false) := by rw [← ha1]; exact (putsL_some _ _ _ _ (by decide) (show 50 < 63 from by decide)).trans (congrArg some (hdep 30 (by kernel_rfl)))
              exact wpOp_off rfl rfl (yielded_of rfl G30) ⟨hIW, fun _ h => h, Or.inl ⟨_, by decide, rfl, updF_same _ _ _⟩⟩
            | 36, _, hdep =>
              have G30 : a1.tmps[50]? = some (.bool false) := by rw [← ha1]; exact (putsL_some _ _ _ _ (by decide) (show 50 < 63 from by decide)).trans (congrArg some (hdep 30 (by kernel_rfl)))
              exact wpOp_off rfl rfl (yielded_of rfl G30) ⟨hIW, fun _ h => h, Or.inl ⟨_, by decide, rfl, updF_same _ _ _⟩⟩
            | 37, _, hdep =>
              have G30 : a1.tmps[50]? = some (.bool false) := by rw [← ha1]; exact (putsL_some _ _ _ _ (by decide) (show 50 < 63 from by decide)).trans (congrArg some (hdep 30 (by kernel_rfl)))
              exact wpOp_off rfl rfl (yielded_of rfl G30) ⟨hIW, fun _ h => h, Or.inl ⟨_, by decide, rfl, updF_same _ _ _⟩⟩
            | 38, _, hdep =>
              have G30 : a1.tmps[50]? = some (.bool false) := by rw [← ha1]; exact (putsL_some _ _ _ _ (by decide) (show 50 < 63 from by decide)).trans (congrArg some (hdep 30 (by kernel_rfl)))
              exact wpOp_off rfl rfl (yielded_of rfl G30) ⟨hIW, fun _ h => h, Or.inl ⟨_, by decide, rfl, updF_same _ _ _⟩⟩
            | 39, _, hdep =>
              have G30 : a1.tmps[50]? = some (.bool false) := by rw [← ha1]; exact (putsL_some _ _ _ _ (by decide) (show 50 < 63 from by decide)).trans (congrArg some (hdep 30 (by kernel_rfl)))
              exact wpOp_off rfl rfl (yielded_of rfl G30) ⟨hIW, fun _ h => h, Or.inl ⟨_, by decide, rfl, updF_same _ _ _⟩⟩
            | 40, _, hdep =>
              have G27 : a1.tmps[47]? = some (.bool false) := by rw [← ha1]; exact (putsL_some _ _ _ _ (by decide) (show 47 < 63 from by decide)).trans (congrArg some (hdep 27 (by kernel_rfl)))
              have E50 : a1.tmps[50]?.getD undef = .bool false := by rw [← ha1]; exact (putsL_in2 _ _ _ _ (by decide) (show 50 < 63 from by decide)).trans (hdep 30 (by kernel_rfl))
              exact wpOp_valG rfl rfl (yielded_of rfl G27) (v := .bool false) (w' := W) (by simp [execOp, go_sem, E50]) ⟨hIW, fun _ h => h, Or.inl ⟨_, by decide, rfl, updF_same _ _ _⟩⟩
            | 41, _, hdep =>
              have E47 : a1.tmps[47]?.getD undef = .bool false := by rw [← ha1]; exact (putsL_in2 _ _ _ _ (by decide) (show 47 < 63 from by decide)).trans (hdep 27 (by kernel_rfl))
              have E60 : a1.tmps[60]?.getD undef = .bool false := by rw [← ha1]; exact (putsL_in2 _ _ _ _ (by decide) (show 60 < 63 from by decide)).trans (hdep 40 (by kernel_rfl))
              exact wpOp_val rfl rfl (v := .bool false) (w' := W) (by simp [execOp, go_sem, E47, E60]) ⟨hIW, fun _ h => h, Or.inl ⟨_, by decide, rfl, updF_same _ _ _⟩⟩
            | iq + 42, h, _ => exact absurd h (by omega)
          case refine_2 =>
            intro f W hIW hR
            have h61 : f 61 = .bool false := hR 41 (show 41 < 42 from by decide)
            simp only [putsL, List.foldl_cons, List.foldl_nil, Act.put, List.setIfInBounds_toArray, List.set_cons_zero, List.set_cons_succ]
            go_wp2
            go_meet
            exact ⟨(by first | rfl | exact h61), Lib.hid hIW⟩
        case rest =>
          obtain ⟨rfl, HJW⟩ := hcut
          have HBW := Lib.hid (HFW1.out _ HJW.out)
          clear HJ0 HJD HJI HJO HFW HF HCL HCK HFW1
          go_wp2
          go_roundw
          case rel => exact ⟨0 + 1, by first | rfl | go_num, by omega, HBW⟩
          case measure => simp [RowKit.intOf]; omega
      | succ k =>
        obtain ⟨y0, hy1, hy2⟩ := HPV.out k rfl
        have HC1 : Hid (∀ W, J W → W.cell? ⟨b, o + k * 3, none⟩ = some (.int .i64 y0)) := Lib.hid fun W hW => hy1 W (HFW.out W hW)
        have hq6 : (0 : Int) < ((k + 1 : Nat) : Int) := by omega
        have hq7 : ¬ x0 ≤ y0 := by omega
        have hq8 : IntKind.i64.wrap (k : Int) = (k : Int) := IntWalk.i64_in _ (by omega)
        have hk2 : (0 : Int) ≤ (k : Int) := by omega
        have hk3 : (k : Int) < (n : Int) := by omega
        clear HPV hy1 hy2
        go_cut [61] (fun c wx => c = .bool false ∧ Hid (J wx))
        case first =>
          refine wp_region_props [20, 21, 22, 23, 24, 25, 26, 27, 28, 29, 30, 31, 32, 33, 34, 35, 36, 37, 38, 39, 40, 41, 42, 43, 44, 45, 46, 47, 48, 49, 50, 51, 52, 53, 54, 55, 56, 57, 58, 59, 60, 61] (slotS [20, 21, 22, 23, 24, 25, 26, 27, 28, 29, 30, 31, 32, 33, 34, 35, 36, 37, 38, 39, 40, 41, 42, 43, 44, 45, 46, 47, 48, 49, 50, 51, 52, 53, 54, 55, 56, 57, 58, 59, 60, 61]) (readsS [20, 21, 22, 23, 24, 25, 26, 27, 28, 29, 30, 31, 32, 33, 34, 35, 36, 37, 38, 39, 40, 41, 42, 43, 44, 45, 46, 47, 48, 49, 50, 51, 52, 53, 54, 55, 56, 57, 58, 59, 60, 61]) (RTs [20, 21, 22, 23, 24, 25, 26, 27, 28, 29, 30, 31, 32, 33, 34, 35, 36, 37, 38, 39, 40, 41, 42, 43, 44, 45, 46, 47, 48, 49, 50, 51, 52, 53, 54, 55, 56, 57, 58, 59, 60, 61] [.pointer (some ⟨bK, 0, none⟩), .int .i64 x0, .bool false, .bool false, .agg #[.int .i64 a.credit, su, en], .pointer (some ⟨bK, 0, none⟩), .int .i64 x0, .int .i64 (iS : Int), .bool false, .bool false, .bool false, .pointer (some ⟨bK, 1, none⟩), .int .i64 x1, .bool false, .bool false, .bool false, .pointer (some ⟨bK, 1, none⟩), .int .i64 x1, .pointer (some ⟨bK, 2, none⟩), .int .i64 x2, .bool false, .bool false, .bool false, .pointer (some ⟨bK, 2, none⟩), .int .i64 x2, .bool false, .bool false, .bool false, .int .i64 ((k + 1 : Nat) : Int), .bool true, .bool true, .slice (some ⟨b, o, none⟩) n cap, .int .i64 ((k + 1 : Nat) : Int), .int .i64 (k : Int), .pointer (some ⟨b, o + k * 3, none⟩), .pointer (some ⟨b, o + k * 3, none⟩), .int .i64 y0, .pointer (some ⟨bK, 0, none⟩), .int .i64 x0, .bool false, .bool false, .bool false]) J (by kernel_rfl) (by kernel_rfl) (by kernel_rfl) (HJD.out _ HJ0.out) (fun j f q v W hq h => RTs.upd hq h) ?_ ?_
          case refine_1 =>
            intro iq hiq f W hIW hdep
            have hiq' : iq < 42 := hiq
            generalize ha1 : putsL _ [20, 21, 22, 23, 24, 25, 26, 27, 28, 29, 30, 31, 32, 33, 34, 35, 36, 37, 38, 39, 40, 41, 42, 43, 44, 45, 46, 47, 48, 49, 50, 51, 52, 53, 54, 55, 56, 57, 58, 59, 60, 61] f = a1
            match iq, hiq', hdep with
            | 0, _, hdep =>
              have E7 : a1.tmps[7]?.getD undef = .pointer (some ⟨bK, 0, none⟩) := by rw [← ha1]; exact (putsL_out2 _ _ _ _ (by decide)).trans rfl
              exact wpOp_val rfl rfl (v := .pointer (some ⟨bK, 0, none⟩)) (w' := W) (by simp [execOp, go_sem, E7]) ⟨hIW, fun _ h => h, Or.inl ⟨_, by decide, rfl, updF_same _ _ _⟩⟩
            | 1, _, hdep =>
              have E20 : a1.tmps[20]?.getD undef = .pointer (some ⟨bK, 0, none⟩) := by rw [← ha1]; exact (putsL_in2 _ _ _ _ (by decide) (show 20 < 63 from by decide)).trans (hdep 0 (by kernel_rfl))
              have v0 : W.cell? ⟨bK, 0, none⟩ = some (.int .i64 x0) := by simpa using HCK.out W hIW 0
              exact wpOp_val rfl rfl (v := .int .i64 x0) (w' := W) (by simp [execOp, go_sem, E20, v0]) ⟨hIW, fun _ h => h, Or.inl ⟨_, by decide, rfl, updF_same _ _ _⟩⟩
            | 2, _, hdep =>
              have E21 : a1.tmps[21]?.getD undef = .int .i64 x0 := by rw [← ha1]; exact (putsL_in2 _ _ _ _ (by decide) (show 21 < 63 from by decide)).trans (hdep 1 (by kernel_rfl))
              exact wpOp_val rfl rfl (v := .bool false) (w' := W) (by simp [execOp, go_sem, E21, hq1]) ⟨hIW, fun _ h => h, Or.inl ⟨_, by decide, rfl, updF_same _ _ _⟩⟩
            | 3, _, hdep =>
              have E22 : a1.tmps[22]?.getD undef = .bool false := by rw [← ha1]; exact (putsL_in2 _ _ _ _ (by decide) (show 22 < 63 from by decide)).trans (hdep 2 (by kernel_rfl))
              exact wpOp_val rfl rfl (v := .bool false) (w' := W) (by simp [execOp, go_sem, E22]) ⟨hIW, fun _ h => h, Or.inl ⟨_, by decide, rfl, updF_same _ _ _⟩⟩
            | 4, _, hdep =>
              have G3 : a1.tmps[23]? = some (.bool false) := by rw [← ha1]; exact (putsL_some _ _ _ _ (by decide) (show 23 < 63 from by decide)).trans (congrArg some (hdep 3 (by kernel_rfl)))
              have E2 : a1.tmps[2]?.getD undef = .pointer (some ⟨bA, 0, none⟩) := by rw [← ha1]; exact (putsL_out2 _ _ _ _ (by decide)).trans rfl
              have v0 : W.cell? ⟨bA, 0, none⟩ = some (.int .i64 a.credit) := by simpa using HCL.out W hIW 0
              have v1 : W.cell? ⟨bA, 1, none⟩ = some (su) := by simpa using HCL.out W hIW 1
              have v2 : W.cell? ⟨bA, 2, none⟩ = some (en) := by simpa using HCL.out W hIW 2
              exact wpOp_valG rfl rfl (yielded_of rfl G3) (v := .agg #[.int .i64 a.credit, su, en]) (w' := W) (by simp [execOp, go_sem, E2, v0, v1, v2]) ⟨hIW, fun _ h => h, Or.inl ⟨_, by decide, rfl, updF_same _ _ _⟩⟩
            | 5, _, hdep =>
              have G3 : a1.tmps[23]? = some (.bool false) := by rw [← ha1]; exact (putsL_some _ _ _ _ (by decide) (show 23 < 63 from by decide)).trans (congrArg some (hdep 3 (by kernel_rfl)))
              have E7 : a1.tmps[7]?.getD undef = .pointer (some ⟨bK, 0, none⟩) := by rw [← ha1]; exact (putsL_out2 _ _ _ _ (by decide)).trans rfl
              exact wpOp_valG rfl rfl (yielded_of rfl G3) (v := .pointer (some ⟨bK, 0, none⟩)) (w' := W) (by simp [execOp, go_sem, E7]) ⟨hIW, fun _ h => h, Or.inl ⟨_, by decide, rfl, updF_same _ _ _⟩⟩
            | 6, _, hdep =>
              have G3 : a1.tmps[23]? = some (.bool false) := by rw [← ha1]; exact (putsL_some _ _ _ _ (by decide) (show 23 < 63 from by decide)).trans (congrArg some (hdep 3 (by kernel_rfl)))
              have E25 : a1.tmps[25]?.getD undef = .pointer (some ⟨bK, 0, none⟩) := by rw [← ha1]; exact (putsL_in2 _ _ _ _ (by decide) (show 25 < 63 from by decide)).trans (hdep 5 (by kernel_rfl))
              have v0 : W.cell? ⟨bK, 0, none⟩ = some (.int .i64 x0) := by simpa using HCK.out W hIW 0
              exact wpOp_valG rfl rfl (yielded_of rfl G3) (v := .int .i64 x0) (w' := W) (by simp [execOp, go_sem, E25, v0]) ⟨hIW, fun _ h => h, Or.inl ⟨_, by decide, rfl, updF_same _ _ _⟩⟩
            | 7, _, hdep =>
              have G3 : a1.tmps[23]? = some (.bool false) := by rw [← ha1]; exact (putsL_some _ _ _ _ (by decide) (show 23 < 63 from by decide)).trans (congrArg some (hdep 3 (by kernel_rfl)))
              have E24 : a1.tmps[24]?.getD undef = .agg #[.int .i64 a.credit, su, en] := by rw [← ha1]; exact (putsL_in2 _ _ _ _ (by decide) (show 24 < 63 from by decide)).trans (hdep 4 (by kernel_rfl))
              have E26 : a1.tmps[26]?.getD undef = .int .i64 x0 := by rw [← ha1]; exact (putsL_in2 _ _ _ _ (by decide) (show 26 < 63 from by decide)).trans (hdep 6 (by kernel_rfl))
              refine wpOp_callG rfl rfl (yielded_of rfl G3) (n := 77) (vs := #[.agg #[.int .i64 a.credit, su, en], .int .i64 x0]) (by have := egF #[.agg #[.int .i64 a.credit, su, en], .int .i64 x0] W; simp [execOp, E24, E26, resolve, invoke, go_sem] <;> exact this) ((HF.out W hIW).mono fun e w' h => (⟨_, h.1, rfl, h.2⟩ : ∃ v, e = .returned v ∧ (v = .int .i64 (iS : Int) ∧ J w'))) ?_
              rintro v w' ⟨rfl, hI'⟩
              exact ⟨hI', fun _ h => h, Or.inl ⟨_, by decide, rfl, updF_same _ _ _⟩⟩
            | 8, _, hdep =>
              have G3 : a1.tmps[23]? = some (.bool false) := by rw [← ha1]; exact (putsL_some _ _ _ _ (by decide) (show 23 < 63 from by decide)).trans (congrArg some (hdep 3 (by kernel_rfl)))
              have E27 : a1.tmps[27]?.getD undef = .int .i64 (iS : Int) := by rw [← ha1]; exact (putsL_in2 _ _ _ _ (by decide) (show 27 < 63 from by decide)).trans (hdep 7 (by kernel_rfl))
              exact wpOp_valG rfl rfl (yielded_of rfl G3) (v := .bool false) (w' := W) (by simp [execOp, go_sem, E27, hq2]) ⟨hIW, fun _ h => h, Or.inl ⟨_, by decide, rfl, updF_same _ _ _⟩⟩
            | 9, _, hdep =>
              have E23 : a1.tmps[23]?.getD undef = .bool false := by rw [← ha1]; exact (putsL_in2 _ _ _ _ (by decide) (show 23 < 63 from by decide)).trans (hdep 3 (by kernel_rfl))
              have E28 : a1.tmps[28]?.getD undef = .bool false := by rw [← ha1]; exact (putsL_in2 _ _ _ _ (by decide) (show 28 < 63 from by decide)).trans (hdep 8 (by kernel_rfl))
              exact wpOp_val rfl rfl (v := .bool false) (w' := W) (by simp [execOp, go_sem, E23, E28]) ⟨hIW, fun _ h => h, Or.inl ⟨_, by decide, rfl, updF_same _ _ _⟩⟩
            | 10, _, hdep =>
              have E29 : a1.tmps[29]?.getD undef = .bool false := by rw [← ha1]; exact (putsL_in2 _ _ _ _ (by decide) (show 29 < 63 from by decide)).trans (hdep 9 (by kernel_rfl))
              exact wpOp_val rfl rfl (v := .bool false) (w' := W) (by simp [execOp, go_sem, E29]) ⟨hIW, fun _ h => h, Or.inl ⟨_, by decide, rfl, updF_same _ _ _⟩⟩
            | 11, _, hdep =>
              have G10 : a1.tmps[30]? = some (.bool false) := by rw [← ha1]; exact (putsL_some _ _ _ _ (by decide) (show 30 < 63 from by decide)).trans (congrArg some (hdep 10 (by kernel_rfl)))
              have E7 : a1.tmps[7]?.getD undef = .pointer (some ⟨bK, 0, none⟩) := by rw [← ha1]; exact (putsL_out2 _ _ _ _ (by decide)).trans rfl
              exact wpOp_valG rfl rfl (yielded_of rfl G10) (v := .pointer (some ⟨bK, 1, none⟩)) (w' := W) (by simp [execOp, go_sem, E7]) ⟨hIW, fun _ h => h, Or.inl ⟨_, by decide, rfl, updF_same _ _ _⟩⟩
            | 12, _, hdep =>
              have G10 : a1.tmps[30]? = some (.bool false) := by rw [← ha1]; exact (putsL_some _ _ _ _ (by decide) (show 30 < 63 from by decide)).trans (congrArg some (hdep 10 (by kernel_rfl)))
              have E31 : a1.tmps[31]?.getD undef = .pointer (some ⟨bK, 1, none⟩) := by rw [← ha1]; exact (putsL_in2 _ _ _ _ (by decide) (show 31 < 63 from by decide)).trans (hdep 11 (by kernel_rfl))
              have v1 : W.cell? ⟨bK, 1, none⟩ = some (.int .i64 x1) := by simpa using HCK.out W hIW 1
              exact wpOp_valG rfl rfl (yielded_of rfl G10) (v := .int .i64 x1) (w' := W) (by simp [execOp, go_sem, E31, v1]) ⟨hIW, fun _ h => h, Or.inl ⟨_, by decide, rfl, updF_same _ _ _⟩⟩
            | 13, _, hdep =>
              have G10 : a1.tmps[30]? = some (.bool false) := by rw [← ha1]; exact (putsL_some _ _ _ _ (by decide) (show 30 < 63 from by decide)).trans (congrArg some (hdep 10 (by kernel_rfl)))
              have E32 : a1.tmps[32]?.getD undef = .int .i64 x1 := by rw [← ha1]; exact (putsL_in2 _ _ _ _ (by decide) (show 32 < 63 from by decide)).trans (hdep 12 (by kernel_rfl))
              exact wpOp_valG rfl rfl (yielded_of rfl G10) (v := .bool false) (w' := W) (by simp [execOp, go_sem, E32, hq3]) ⟨hIW, fun _ h => h, Or.inl ⟨_, by decide, rfl, updF_same _ _ _⟩⟩
            | 14, _, hdep =>
              have E30 : a1.tmps[30]?.getD undef = .bool false := by rw [← ha1]; exact (putsL_in2 _ _ _ _ (by decide) (show 30 < 63 from by decide)).trans (hdep 10 (by kernel_rfl))
              have E33 : a1.tmps[33]?.getD undef = .bool false := by rw [← ha1]; exact (putsL_in2 _ _ _ _ (by decide) (show 33 < 63 from by decide)).trans (hdep 13 (by kernel_rfl))
              exact wpOp_val rfl rfl (v := .bool false) (w' := W) (by simp [execOp, go_sem, E30, E33]) ⟨hIW, fun _ h => h, Or.inl ⟨_, by decide, rfl, updF_same _ _ _⟩⟩
            | 15, _, hdep =>
              have E34 : a1.tmps[34]?.getD undef = .bool false := by rw [← ha1]; exact (putsL_in2 _ _ _ _ (by decide) (show 34 < 63 from by decide)).trans (hdep 14 (by kernel_rfl))
              exact wpOp_val rfl rfl (v := .bool false) (w' := W) (by simp [execOp, go_sem, E34]) ⟨hIW, fun _ h => h, Or.inl ⟨_, by decide, rfl, updF_same _ _ _⟩⟩
            | 16, _, hdep =>
              have G15 : a1.tmps[35]? = some (.bool false) := by rw [← ha1]; exact (putsL_some _ _ _ _ (by decide) (show 35 < 63 from by decide)).trans (congrArg some (hdep 15 (by kernel_rfl)))
              have E7 : a1.tmps[7]?.getD undef = .pointer (some ⟨bK, 0, none⟩) := by rw [← ha1]; exact (putsL_out2 _ _ _ _ (by decide)).trans rfl
              exact wpOp_valG rfl rfl (yielded_of rfl G15) (v := .pointer (some ⟨bK, 1, none⟩)) (w' := W) (by simp [execOp, go_sem, E7]) ⟨hIW, fun _ h => h, Or.inl ⟨_, by decide, rfl, updF_same _ _ _⟩⟩
            | 17, _, hdep =>
              have G15 : a1.tmps[35]? = some (.bool false) := by rw [← ha1]; exact (putsL_some _ _ _ _ (by decide) (show 35 < 63 from by decide)).trans (congrArg some (hdep 15 (by kernel_rfl)))
              have E36 : a1.tmps[36]?.getD undef = .pointer (some ⟨bK, 1, none⟩) := by rw [← ha1]; exact (putsL_in2 _ _ _ _ (by decide) (show 36 < 63 from by decide)).trans (hdep 16 (by kernel_rfl))
              have v1 : W.cell? ⟨bK, 1, none⟩ = some (.int .i64 x1) := by simpa using HCK.out W hIW 1
              exact wpOp_valG rfl rfl (yielded_of rfl G15) (v := .int .i64 x1) (w' := W) (by simp [execOp, go_sem, E36, v1]) ⟨hIW, fun _ h => h, Or.inl ⟨_, by decide, rfl, updF_same _ _ _⟩⟩
            | 18, _, hdep =>
              have G15 : a1.tmps[35]? = some (.bool false) := by rw [← ha1]; exact (putsL_some _ _ _ _ (by decide) (show 35 < 63 from by decide)).trans (congrArg some (hdep 15 (by kernel_rfl)))
              have E7 : a1.tmps[7]?.getD undef = .pointer (some ⟨bK, 0, none⟩) := by rw [← ha1]; exact (putsL_out2 _ _ _ _ (by decide)).trans rfl
              exact wpOp_valG rfl rfl (yielded_of rfl G15) (v := .pointer (some ⟨bK, 2, none⟩)) (w' := W) (by simp [execOp, go_sem, E7]) ⟨hIW, fun _ h => h, Or.inl ⟨_, by decide, rfl, updF_same _ _ _⟩⟩
            | 19, _, hdep =>
              have G15 : a1.tmps[35]? = some (.bool false) := by rw [← ha1]; exact (putsL_some _ _ _ _ (by decide) (show 35 < 63 from by decide)).trans (congrArg some (hdep 15 (by kernel_rfl)))
              have E38 : a1.tmps[38]?.getD undef = .pointer (some ⟨bK, 2, none⟩) := by rw [← ha1]; exact (putsL_in2 _ _ _ _ (by decide) (show 38 < 63 from by decide)).trans (hdep 18 (by kernel_rfl))
              have v2 : W.cell? ⟨bK, 2, none⟩ = some (.int .i64 x2) := by simpa using HCK.out W hIW 2
              exact wpOp_valG rfl rfl (yielded_of rfl G15) (v := .int .i64 x2) (w' := W) (by simp [execOp, go_sem, E38, v2]) ⟨hIW, fun _ h => h, Or.inl ⟨_, by decide, rfl, updF_same _ _ _⟩⟩
            | 20, _, hdep =>
              have G15 : a1.tmps[35]? = some (.bool false) := by rw [← ha1]; exact (putsL_some _ _ _ _ (by decide) (show 35 < 63 from by decide)).trans (congrArg some (hdep 15 (by kernel_rfl)))
              have E37 : a1.tmps[37]?.getD undef = .int .i64 x1 := by rw [← ha1]; exact (putsL_in2 _ _ _ _ (by decide) (show 37 < 63 from by decide)).trans (hdep 17 (by kernel_rfl))
              have E39 : a1.tmps[39]?.getD undef = .int .i64 x2 := by rw [← ha1]; exact (putsL_in2 _ _ _ _ (by decide) (show 39 < 63 from by decide)).trans (hdep 19 (by kernel_rfl))
              exact wpOp_valG rfl rfl (yielded_of rfl G15) (v := .bool false) (w' := W) (by simp [execOp, go_sem, E37, E39, hq4]) ⟨hIW, fun _ h => h, Or.inl ⟨_, by decide, rfl, updF_same _ _ _⟩⟩
            | 21, _, hdep =>
              have E35 : a1.tmps[35]?.getD undef = .bool false := by rw [← ha1]; exact (putsL_in2 _ _ _ _ (by decide) (show 35 < 63 from by decide)).trans (hdep 15 (by kernel_rfl))
              have E40 : a1.tmps[40]?.getD undef = .bool false := by rw [← ha1]; exact (putsL_in2 _ _ _ _ (by decide) (show 40 < 63 from by decide)).trans (hdep 20 (by kernel_rfl))
              exact wpOp_val rfl rfl (v := .bool false) (w' := W) (by simp [execOp, go_sem, E35, E40]) ⟨hIW, fun _ h => h, Or.inl ⟨_, by decide, rfl, updF_same _ _ _⟩⟩
            | 22, _, hdep =>
              have E41 : a1.tmps[41]?.getD undef = .bool false := by rw [← ha1]; exact (putsL_in2 _ _ _ _ (by decide) (show 41 < 63 from by decide)).trans (hdep 21 (by kernel_rfl))
              exact wpOp_val rfl rfl (v := .bool false) (w' := W) (by simp [execOp, go_sem, E41]) ⟨hIW, fun _ h => h, Or.inl ⟨_, by decide, rfl, updF_same _ _ _⟩⟩
            | 23, _, hdep =>
              have G22 : a1.tmps[42]? = some (.bool false) := by rw [← ha1]; exact (putsL_some _ _ _ _ (by decide) (show 42 < 63 from by decide)).trans (congrArg some (hdep 22 (by kernel_rfl)))
              have E7 : a1.tmps[7]?.getD undef = .pointer (some ⟨bK, 0, none⟩) := by rw [← ha1]; exact (putsL_out2 _ _ _ _ (by decide)).trans rfl
              exact wpOp_valG rfl rfl (yielded_of rfl G22) (v := .pointer (some ⟨bK, 2, none⟩)) (w' := W) (by simp [execOp, go_sem, E7]) ⟨hIW, fun _ h => h, Or.inl ⟨_, by decide, rfl, updF_same _ _ _⟩⟩
            | 24, _, hdep =>
              have G22 : a1.tmps[42]? = some (.bool false) := by rw [← ha1]; exact (putsL_some _ _ _ _ (by decide) (show 42 < 63 from by decide)).trans (congrArg some (hdep 22 (by kernel_rfl)))
              have E43 : a1.tmps[43]?.getD undef = .pointer (some ⟨bK, 2, none⟩) := by rw [← ha1]; exact (putsL_in2 _ _ _ _ (by decide) (show 43 < 63 from by decide)).trans (hdep 23 (by kernel_rfl))
              have v2 : W.cell? ⟨bK, 2, none⟩ = some (.int .i64 x2) := by simpa using HCK.out W hIW 2
              exact wpOp_valG rfl rfl (yielded_of rfl G22) (v := .int .i64 x2) (w' := W) (by simp [execOp, go_sem, E43, v2]) ⟨hIW, fun _ h => h, Or.inl ⟨_, by decide, rfl, updF_same _ _ _⟩⟩
            | 25, _, hdep =>
              have G22 : a1.tmps[42]? = some (.bool false) := by rw [← ha1]; exact (putsL_some _ _ _ _ (by decide) (show 42 < 63 from by decide)).trans (congrArg some (hdep 22 (by kernel_rfl)))
              have E44 : a1.tmps[44]?.getD undef = .int .i64 x2 := by rw [← ha1]; exact (putsL_in2 _ _ _ _ (by decide) (show 44 < 63 from by decide)).trans (hdep 24 (by kernel_rfl))
              exact wpOp_valG rfl rfl (yielded_of rfl G22) (v := .bool false) (w' := W) (by simp [execOp, go_sem, E44, hq5]) ⟨hIW, fun _ h => h, Or.inl ⟨_, by decide, rfl, updF_same _ _ _⟩⟩
            | 26, _, hdep =>
              have E42 : a1.tmps[42]?.getD undef = .bool false := by rw [← ha1]; exact (putsL_in2 _ _ _ _ (by decide) (show 42 < 63 from by decide)).trans (hdep 22 (by kernel_rfl))
              have E45 : a1.tmps[45]?.getD undef = .bool false := by rw [← ha1]; exact (putsL_in2 _ _ _ _ (by decide) (show 45 < 63 from by decide)).trans (hdep 25 (by kernel_rfl))
              exact wpOp_val rfl rfl (v := .bool false) (w' := W) (by simp [execOp, go_sem, E42, E45]) ⟨hIW, fun _ h => h, Or.inl ⟨_, by decide, rfl, updF_same _ _ _⟩⟩
            | 27, _, hdep =>
              have E46 : a1.tmps[46]?.getD undef = .bool false := by rw [← ha1]; exact (putsL_in2 _ _ _ _ (by decide) (show 46 < 63 from by decide)).trans (hdep 26 (by kernel_rfl))
              exact wpOp_val rfl rfl (v := .bool false) (w' := W) (by simp [execOp, go_sem, E46]) ⟨hIW, fun _ h => h, Or.inl ⟨_, by decide, rfl, updF_same _ _ _⟩⟩
            | 28, _, hdep =>
              have G27 : a1.tmps[47]? = some (.bool false) := by rw [← ha1]; exact (putsL_some _ _ _ _ (by decide) (show 47 < 63 from by decide)).trans (congrArg some (hdep 27 (by kernel_rfl)))
              have E6 : a1.tmps[6]?.getD undef = .int .i64 ((k + 1 : Nat) : Int) := by rw [← ha1]; exact (putsL_out2 _ _ _ _ (by decide)).trans rfl
              exact wpOp_valG rfl rfl (yielded_of rfl G27) (v := .int .i64 ((k + 1 : Nat) : Int)) (w' := W) (by simp [execOp, go_sem, E6]) ⟨hIW, fun _ h => h, Or.inl ⟨_, by decide, rfl, updF_same _ _ _⟩⟩
            | 29, _, hdep =>
              have G27 : a1.tmps[47]? = some (.bool false) := by rw [← ha1]; exact (putsL_some _ _ _ _ (by decide) (show 47 < 63 from by decide)).trans (congrArg some (hdep 27 (by kernel_rfl)))
              have E48 : a1.tmps[48]?.getD undef = .int .i64 ((k + 1 : Nat) : Int) := by rw [← ha1]; exact (putsL_in2 _ _ _ _ (by decide) (show 48 < 63 from by decide)).trans (hdep 28 (by kernel_rfl))
              exact wpOp_valG rfl rfl (yielded_of rfl G27) (v := .bool true) (w' := W) (by simp [execOp, go_sem, E48, hq6]) ⟨hIW, fun _ h => h, Or.inl ⟨_, by decide, rfl, updF_same _ _ _⟩⟩
            | 30, _, hdep =>
              have G27 : a1.tmps[47]? = some (.bool false) := by rw [← ha1]; exact (putsL_some _ _ _ _ (by decide) (show 47 < 63 from by decide)).trans (congrArg some (hdep 27 (by kernel_rfl)))
              have E49 : a1.tmps[49]?.getD undef = .bool true := by rw [← ha1]; exact (putsL_in2 _ _ _ _ (by decide) (show 49 < 63 from by decide)).trans (hdep 29 (by kernel_rfl))
              exact wpOp_valG rfl rfl (yielded_of rfl G27) (v := .bool true) (w' := W) (by simp [execOp, go_sem, E49]) ⟨hIW, fun _ h => h, Or.inl ⟨_, by decide, rfl, updF_same _ _ _⟩⟩
            | 31, _, hdep =>
              have G30 : a1.tmps[50]? = some (.bool true) := by rw [← ha1]; exact (putsL_some _ _ _ _ (by decide) (show 50 < 63 from by decide)).trans (congrArg some (hdep 30 (by kernel_rfl)))
              have E1 : a1.tmps[1]?.getD undef = .slice (some ⟨b, o, none⟩) n cap := by rw [← ha1]; exact (putsL_out2 _ _ _ _ (by decide)).trans rfl
              exact wpOp_valG rfl rfl (yielded_of rfl G30) (v := .slice (some ⟨b, o, none⟩) n cap) (w' := W) (by simp [execOp, go_sem, E1]) ⟨hIW, fun _ h => h, Or.inl ⟨_, by decide, rfl, updF_same _ _ _⟩⟩
            | 32, _, hdep =>
              have G30 : a1.tmps[50]? = some (.bool true) := by rw [← ha1]; exact (putsL_some _ _ _ _ (by decide) (show 50 < 63 from by decide)).trans (congrArg some (hdep 30 (by kernel_rfl)))
              have E6 : a1.tmps[6]?.getD undef = .int .i64 ((k + 1 : Nat) : Int) := by rw [← ha1]; exact (putsL_out2 _ _ _ _ (by decide)).trans rfl
              exact wpOp_valG rfl rfl (yielded_of rfl G30) (v := .int .i64 ((k + 1 : Nat) : Int)) (w' := W) (by simp [execOp, go_sem, E6]) ⟨hIW, fun _ h => h, Or.inl ⟨_, by decide, rfl, updF_same _ _ _⟩⟩
            | 33, _, hdep =>
              have G30 : a1.tmps[50]? = some (.bool true) := by rw [← ha1]; exact (putsL_some _ _ _ _ (by decide) (show 50 < 63 from by decide)).trans (congrArg some (hdep 30 (by kernel_rfl)))
              have E52 : a1.tmps[52]?.getD undef = .int .i64 ((k + 1 : Nat) : Int) := by rw [← ha1]; exact (putsL_in2 _ _ _ _ (by decide) (show 52 < 63 from by decide)).trans (hdep 32 (by kernel_rfl))
              exact wpOp_valG rfl rfl (yielded_of rfl G30) (v := .int .i64 (k : Int)) (w' := W) (by simp [execOp, go_sem, E52, hq8]) ⟨hIW, fun _ h => h, Or.inl ⟨_, by decide, rfl, updF_same _ _ _⟩⟩
            | 34, _, hdep =>
              have G30 : a1.tmps[50]? = some (.bool true) := by rw [← ha1]; exact (putsL_some _ _ _ _ (by decide) (show 50 < 63 from by decide)).trans (congrArg some (hdep 30 (by kernel_rfl)))
              have E51 : a1.tmps[51]?.getD undef = .slice (some ⟨b, o, none⟩) n cap := by rw [← ha1]; exact (putsL_in2 _ _ _ _ (by decide) (show 51 < 63 from by decide)).trans (hdep 31 (by kernel_rfl))
              have E53 : a1.tmps[53]?.getD undef = .int .i64 (k : Int) := by rw [← ha1]; exact (putsL_in2 _ _ _ _ (by decide) (show 53 < 63 from by decide)).trans (hdep 33 (by kernel_rfl))
              exact wpOp_valG rfl rfl (yielded_of rfl G30) (v := .pointer (some ⟨b, o + k * 3, none⟩)) (w' := W) (by simp [execOp, go_sem, E51, E53, hk2, hk3]) ⟨hIW, fun _ h => h, Or.inl ⟨_, by decide, rfl, updF_same _ _ _⟩⟩
            | 35, _, hdep =>
              have G30 : a1.tmps[50]? = some (.bool true) := by rw [← ha1]; exact (putsL_some _ _ _ _ (by decide) (show 50 < 63 from by decide)).trans (congrArg some (hdep 30 (by kernel_rfl)))
              have E54 : a1.tmps[54]?.getD undef = .pointer (some ⟨b, o + k * 3, none⟩) := by rw [← ha1]; exact (putsL_in2 _ _ _ _ (by decide) (show 54 < 63 from by decide)).trans (hdep 34 (by kernel_rfl))
              exact wpOp_valG rfl rfl (yielded_of rfl G30) (v := .pointer (some ⟨b, o + k * 3, none⟩)) (w' := W) (by simp [execOp, go_sem, E54]) ⟨hIW, fun _ h => h, Or.inl ⟨_, by decide, rfl, updF_same _ _ _⟩⟩
            | 36, _, hdep =>
              have G30 : a1.tmps[50]? = some (.bool true) := by rw [← ha1]; exact (putsL_some _ _ _ _ (by decide) (show 50 < 63 from by decide)).trans (congrArg some (hdep 30 (by kernel_rfl)))
              have E55 : a1.tmps[55]?.getD undef = .pointer (some ⟨b, o + k * 3, none⟩) := by rw [← ha1]; exact (putsL_in2 _ _ _ _ (by decide) (show 55 < 63 from by decide)).trans (hdep 35 (by kernel_rfl))
              exact wpOp_valG rfl rfl (yielded_of rfl G30) (v := .int .i64 y0) (w' := W) (by simp [execOp, go_sem, E55, HC1.out W hIW]) ⟨hIW, fun _ h => h, Or.inl ⟨_, by decide, rfl, updF_same _ _ _⟩⟩
            | 37, _, hdep =>
              have G30 : a1.tmps[50]? = some (.bool true) := by rw [← ha1]; exact (putsL_some _ _ _ _ (by decide) (show 50 < 63 from by decide)).trans (congrArg some (hdep 30 (by kernel_rfl)))
              have E7 : a1.tmps[7]?.getD undef = .pointer (some ⟨bK, 0, none⟩) := by rw [← ha1]; exact (putsL_out2 _ _ _ _ (by decide)).trans rfl
              exact wpOp_valG rfl rfl (yielded_of rfl G30) (v := .pointer (some ⟨bK, 0, none⟩)) (w' := W) (by simp [execOp, go_sem, E7]) ⟨hIW, fun _ h => h, Or.inl ⟨_, by decide, rfl, updF_same _ _ _⟩⟩
            | 38, _, hdep =>
              have G30 : a1.tmps[50]? = some (.bool true) := by rw [← ha1]; exact (putsL_some _ _ _ _ (by decide) (show 50 < 63 from by decide)).trans (congrArg some (hdep 30 (by kernel_rfl)))
              have E57 : a1.tmps[57]?.getD undef = .pointer (some ⟨bK, 0, none⟩) := by rw [← ha1]; exact (putsL_in2 _ _ _ _ (by decide) (show 57 < 63 from by decide)).trans (hdep 37 (by kernel_rfl))
              have v0 : W.cell? ⟨bK, 0, none⟩ = some (.int .i64 x0) := by simpa using HCK.out W hIW 0
              exact wpOp_valG rfl rfl (yielded_of rfl G30) (v := .int .i64 x0) (w' := W) (by simp [execOp, go_sem, E57, v0]) ⟨hIW, fun _ h => h, Or.inl ⟨_, by decide, rfl, updF_same _ _ _⟩⟩
            | 39, _, hdep =>
              have G30 : a1.tmps[50]? = some (.bool true) := by rw [← ha1]; exact (putsL_some _ _ _ _ (by decide) (show 50 < 63 from by decide)).trans (congrArg some (hdep 30 (by kernel_rfl)))
              have E56 : a1.tmps[56]?.getD undef = .int .i64 y0 := by rw [← ha1]; exact (putsL_in2 _ _ _ _ (by decide) (show 56 < 63 from by decide)).trans (hdep 36 (by kernel_rfl))
              have E58 : a1.tmps[58]?.getD undef = .int .i64 x0 := by rw [← ha1]; exact (putsL_in2 _ _ _ _ (by decide) (show 58 < 63 from by decide)).trans (hdep 38 (by kernel_rfl))
              exact wpOp_valG rfl rfl (yielded_of rfl G30) (v := .bool false) (w' := W) (by simp [execOp, go_sem, E56, E58, hq7]) ⟨hIW, fun _ h => h, Or.inl ⟨_, by decide, rfl, updF_same _ _ _⟩⟩
            | 40, _, hdep =>
              have G27 : a1.tmps[47]? = some (.bool false) := by rw [← ha1]; exact (putsL_some _ _ _ _ (by decide) (show 47 < 63 from by decide)).trans (congrArg some (hdep 27 (by kernel_rfl)))
              have E50 : a1.tmps[50]?.getD undef = .bool true := by rw [← ha1]; exact (putsL_in2 _ _ _ _ (by decide) (show 50 < 63 from by decide)).trans (hdep 30 (by kernel_rfl))
              have E59 : a1.tmps[59]?.getD undef = .bool false := by rw [← ha1]; exact (putsL_in2 _ _ _ _ (by decide) (show 59 < 63 from by decide)).trans (hdep 39 (by kernel_rfl))
              exact wpOp_valG rfl rfl (yielded_of rfl G27) (v := .bool false) (w' := W) (by simp [execOp, go_sem, E50, E59]) ⟨hIW, fun _ h => h, Or.inl ⟨_, by decide, rfl, updF_same _ _ _⟩⟩
            | 41, _, hdep =>
              have E47 : a1.tmps[47]?.getD undef = .bool false := by rw [← ha1]; exact (putsL_in2 _ _ _ _ (by decide) (show 47 < 63 from by decide)).trans (hdep 27 (by kernel_rfl))
              have E60 : a1.tmps[60]?.getD undef = .bool false := by rw [← ha1]; exact (putsL_in2 _ _ _ _ (by decide) (show 60 < 63 from by decide)).trans (hdep 40 (by kernel_rfl))
              exact wpOp_val rfl rfl (v := .bool false) (w' := W) (by simp [execOp, go_sem, E47, E60]) ⟨hIW, fun _ h => h, Or.inl ⟨_, by decide, rfl, updF_same _ _ _⟩⟩
            | iq + 42, h, _ => exact absurd h (by omega)
          case refine_2 =>
            intro f W hIW hR
            have h61 : f 61 = .bool false := hR 41 (show 41 < 42 from by decide)
            simp only [putsL, List.foldl_cons, List.foldl_nil, Act.put, List.setIfInBounds_toArray, List.set_cons_zero, List.set_cons_succ]
            go_wp2
            go_meet
            exact ⟨(by first | rfl | exact h61), Lib.hid hIW⟩
        case rest =>
          obtain ⟨rfl, HJW⟩ := hcut
          have HBW := Lib.hid (HFW1.out _ HJW.out)
          clear HJ0 HJD HJI HJO HFW HF HCL HCK HFW1
          go_wp2
          go_roundw
          case rel => exact ⟨(k + 1) + 1, by first | rfl | go_num, by omega, HBW⟩
          case measure => simp [RowKit.intOf]; omega
    · obtain rfl : k = n := by omega
      go_wp2
      go_ret
      exact ⟨rfl, HB1.out.trans (HB.out.mono HB1.out.size)⟩

end Go.Proofs.Ytoelidndnajedaa
