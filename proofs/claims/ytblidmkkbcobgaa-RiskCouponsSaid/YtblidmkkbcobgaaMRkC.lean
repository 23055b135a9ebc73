/- risk.coupons of every right register: the coupons of each of some years. -/
import Derived.Test.YtblidmkkbcobgaaMRkF
set_option linter.unusedSimpArgs false
set_option linter.unusedVariables false
set_option linter.unusedSimpArgs false
set_option linter.unusedVariables false
namespace Go.Proofs.Ytblidmkkbcobgaa
open Go.RowKit Go.Lib Go.Proofs
attribute [local go_sem] Oper.semAt_some

def cpnP (secs : List Sec) (first : Int) (n : Nat) (pre : List Hld) : List Int := (List.range n).map fun (j : Nat) => cpnS secs (first + (j : Int)) pre
/-- The coupons of some holdings, and those of one more until its k-th day. -/
def cpnQ (secs : List Sec) (first : Int) (n : Nat) (pre : List Hld) (s : Sec) (a : Int) (k : Nat) : List Int := (List.range n).map fun (j : Nat) => cpnS secs (first + (j : Int)) pre + couponI s a * (cnt (first + (j : Int)) ((daysQ s).take k) : Int)
def cpnL (r : Reg) (first : Int) (n : Nat) : List Int := (List.range n).map fun (j : Nat) => cpnM r (first + (j : Int))
theorem cpnP_all (r : Reg) (first : Int) (n : Nat) : cpnP r.secs first n r.hs = cpnL r first n := rfl
theorem cpnP_len (secs : List Sec) (first : Int) (n : Nat) (pre : List Hld) : (cpnP secs first n pre).length = n := by simp [cpnP]
theorem cpnL_len (r : Reg) (first : Int) (n : Nat) : (cpnL r first n).length = n := by simp [cpnL]
theorem cpnQ_len (secs : List Sec) (first : Int) (n : Nat) (pre : List Hld) (s : Sec) (a : Int) (k : Nat) : (cpnQ secs first n pre s a k).length = n := by simp [cpnQ]
theorem cpnP_nil (secs : List Sec) (first : Int) (n : Nat) : cpnP secs first n [] = fallsP secs first n [] := by
  unfold cpnP fallsP
  exact List.map_congr_left fun j _ => by simp [cpnS, sumH]
theorem cpnQ_zero (secs : List Sec) (first : Int) (n : Nat) (pre : List Hld) (s : Sec) (a : Int) : cpnQ secs first n pre s a 0 = cpnP secs first n pre := by
  unfold cpnP cpnQ
  exact List.map_congr_left fun j _ => by simp [cnt]
theorem cpnQ_full (secs : List Sec) (first : Int) (n : Nat) (pre : List Hld) (x : Hld) : cpnQ secs first n pre (secAt secs x.sec) x.amt (daysQ (secAt secs x.sec)).length = cpnP secs first n (pre ++ [x]) := by
  unfold cpnP cpnQ
  exact List.map_congr_left fun j _ => by rw [cpnS_app, List.take_length]; simp [cpnS]
theorem cnt_take {y : Int} {l : List Int} {k : Nat} (h : k < l.length) : cnt y (l.take (k + 1)) = cnt y (l.take k) + (if l[k] / 360 = y then 1 else 0) := by
  rw [List.take_succ_eq_append_getElem h]; exact cnt_snoc _ _ _
theorem cpnQ_out {secs : List Sec} {first : Int} {n : Nat} (pre : List Hld) {s : Sec} {a : Int} {k : Nat} (hk : k < (daysQ s).length) (h : ¬ (0 ≤ (daysQ s)[k] / 360 - first ∧ (daysQ s)[k] / 360 - first < (n : Int))) : cpnQ secs first n pre s a (k + 1) = cpnQ secs first n pre s a k := by
  unfold cpnQ
  refine List.map_congr_left fun j hj => ?_
  rw [List.mem_range] at hj
  rw [cnt_take hk, if_neg (by omega)]
  simp
theorem cpnQ_in {secs : List Sec} {first : Int} {n : Nat} (pre : List Hld) {s : Sec} {a : Int} {k i : Nat} (hk : k < (daysQ s).length) (h : (daysQ s)[k] / 360 - first = (i : Int)) (hi : i < n) : cpnQ secs first n pre s a (k + 1) = (cpnQ secs first n pre s a k).set i ((cpnQ secs first n pre s a k).getD i 0 + couponI s a) := by
  refine List.ext_getElem (by simp [cpnQ]) fun j h1 h2 => ?_
  have hj : j < n := by rw [cpnQ_len] at h1; exact h1
  rw [List.getElem_set]
  simp only [cpnQ, List.getElem_map, List.getElem_range, cnt_take hk]
  by_cases e : i = j
  · subst e
    have h7 : (daysQ s)[k] / 360 = first + (i : Int) := by omega
    rw [if_pos h7, if_pos rfl]
    simp [List.getD, hi, Int.mul_add]
    try omega
  · rw [if_neg e, if_neg (by omega)]
    simp
theorem cpnQ_bound {r : Reg} (h : RegOk r) {first : Int} {n : Nat} {pre : List Hld} {x : Hld} (hp : (pre ++ [x]) <+: r.hs) (k i : Nat) (hi : i < n) : 0 ≤ (cpnQ r.secs first n pre (secAt r.secs x.sec) x.amt k).getD i 0 ∧ (cpnQ r.secs first n pre (secAt r.secs x.sec) x.amt k).getD i 0 ≤ 12000000000000000 ∧ 0 ≤ couponI (secAt r.secs x.sec) x.amt ∧ couponI (secAt r.secs x.sec) x.amt ≤ 20000000000000 := by
  have hx : ∀ y ∈ pre ++ [x], y ∈ r.hs := fun y hy => hp.subset hy
  have h1 := prefix_in h hp fun _ => true
  have h2 := cpnS_in (secs := r.secs) (first + (i : Int)) (l := pre) fun y hy => ⟨h.hld y (hx y (by simp [hy])), (h.known y (hx y (by simp [hy]))).2.1⟩
  have k2 := (h.known x (hx x (by simp))).2.1
  have h3 := coupon_in k2 (a := x.amt) (by omega)
  have h4 : (cnt (first + (i : Int)) ((daysQ (secAt r.secs x.sec)).take k) : Int) ≤ 600 := by
    have a := days_len k2
    have b : cnt (first + (i : Int)) ((daysQ (secAt r.secs x.sec)).take k) ≤ ((daysQ (secAt r.secs x.sec)).take k).length := List.countP_le_length
    have c : ((daysQ (secAt r.secs x.sec)).take k).length ≤ (daysQ (secAt r.secs x.sec)).length := by rw [List.length_take]; omega
    omega
  have h5 := Int.mul_nonneg h3.1 (show 0 ≤ (cnt (first + (i : Int)) ((daysQ (secAt r.secs x.sec)).take k) : Int) by omega)
  have h6 : couponI (secAt r.secs x.sec) x.amt * (cnt (first + (i : Int)) ((daysQ (secAt r.secs x.sec)).take k) : Int) ≤ x.amt * 600 := Int.le_trans (Int.mul_le_mul_of_nonneg_right h3.2 (by omega)) (Int.mul_le_mul_of_nonneg_left h4 (by omega))
  have e : (cpnQ r.secs first n pre (secAt r.secs x.sec) x.amt k).getD i 0 = cpnS r.secs (first + (i : Int)) pre + couponI (secAt r.secs x.sec) x.amt * (cnt (first + (i : Int)) ((daysQ (secAt r.secs x.sec)).take k) : Int) := by
    simp [cpnQ, List.getD, hi]
  rw [e]
  omega

def CAx (r : Reg) (w : World) (N bs g : Nat) (first : Int) (n : Nat) (D : Value) (pre : List Hld) (x : Hld) (a' : Act) (A : World) : Prop :=
  ∃ b8 b9 : Nat, N ≤ b8 ∧ N ≤ b9 ∧ A.heap[b8]? = some (.cells (secAt r.secs x.sec).cells.toArray 55 (0, 0)) ∧ A.heap[b9]? = some (.cells (hldC x).toArray 53 (0, 0)) ∧ FI w bs g first n (cpnP r.secs first n pre) A ∧
    a' = { tmps := #[D, .int .i64 first, .int .i64 (n : Int), .pointer (some ⟨w.heap.size, 0, none⟩), .pointer (some ⟨w.heap.size + 1, 0, none⟩), .pointer (some ⟨w.heap.size + 1 + 1, 0, none⟩), .slice none 0 0, .pointer (some ⟨bs, 0, none⟩), .pointer (some ⟨b8, 0, none⟩), .pointer (some ⟨b9, 0, none⟩), undef, undef, undef, undef, undef, .int .i64 (n : Int), .slice (some ⟨g, 0, none⟩) n n, D, .func (.func 63) #[D] #[], .agg (secAt r.secs x.sec).cells.toArray, .agg (hldC x).toArray, undef, undef, undef, undef, undef, undef, undef, undef, undef, undef, undef, undef, undef, undef, undef, undef, undef, undef, undef, undef, undef, undef, undef, undef, undef, undef, undef, undef, undef, undef, undef, undef, undef, undef], defers := [] }

set_option maxRecDepth 100000 in
set_option maxHeartbeats 8000000 in
theorem ricoupons_ok (r : Reg) (x y z : Value) (first : Int) (n : Nat) (w : World) (h : RegOk r) (hr : RegAt w x y z r) (hf : 0 ≤ first ∧ first ≤ 100) (hn : 1 ≤ n ∧ n ≤ 60) :
    Calls Try.prog 48 #[.agg #[x, y, z], .int .i64 first, .int .i64 (n : Int)] w fun e w' => ∃ v, e = .returned v ∧ w'.ownsRow w.heap.size 3 1 v n (cellsI (cpnL r first n)) ∧ Below w.heap.size w w' := by
  refine (callsIn_wide (n := 0)).1 ?_
  obtain ⟨i0, hi, hz0, hz1, hz2⟩ := info_parts Try.infoInt
  have HOK := Lib.hid h
  have HREG := Lib.hid hr
  have hn0 : (0 : Int) ≤ (n : Int) := by omega
  have hn1 : (n : Int) ≤ 60 := by omega
  have hmo : Try.prog.follows .mixedOrders = true := by kernel_rfl
  have HFS := Lib.hid (fun w1 ho hg => falls_start (w := w) (w1 := w1) (x := x) (y := y) (z := z) (first := first) (n := n) r.secs ho hg)
  clear h hr
  refine callsIn_of_wp_marks Try.func48 rfl trivial ?_ rfl
  simp only [Try.ntmps48, List.size_toArray, List.length_cons, List.length_nil, Nat.reduceAdd, Nat.reduceSub, Array.replicate_succ, Array.replicate_zero, List.push_toArray, List.append_toArray, List.nil_append, List.cons_append]
  gi_wp2_with (gi_at_make; refine wpListIn_make_full _ rfl _ _ 22 rfl w.heap.size 3 i0 (.int .i64 0) 1 Try.underlying22 hi hz0 hz1 .i64 .i64 _ _ n rfl rfl rfl rfl (by rw [hz2]; omega) (by unfold maxLen; omega) (by simp; omega) ?_; intro w1 hown1 hgrow1; obtain ⟨hb0, hfi, hlt⟩ := HFS.out w1 hown1 hgrow1; (have q0 := obj_cell hb0 0); (have q1 := obj_cell hb0 1); (have q2 := obj_cell hb0 2); simp at q0 q1 q2; (have HFI := Lib.hid hfi); (have HLT := Lib.hid hlt); clear hown1 hgrow1 hb0 hfi hlt)
  obtain ⟨WL, hWL⟩ : ∃ WL, WL = w1.alloc (.cells #[.slice (some ⟨w.heap.size + 1 + 1 + 1, 0, none⟩) n n] 22) := ⟨_, rfl⟩
  obtain ⟨bs, hbs⟩ : ∃ bs, bs = w1.heap.size := ⟨_, rfl⟩
  have HSZ : Hid (WL.heap.size = bs + 1) := Lib.hid (by rw [hWL, hbs]; simp)
  obtain ⟨g, hg⟩ : ∃ g, g = w.heap.size + 1 + 1 + 1 := ⟨_, rfl⟩
  have HGB : Hid (g < bs) := Lib.hid (by rw [hg, hbs]; exact HLT.out)
  have HG0 : Hid (g = w.heap.size + 1 + 1 + 1) := Lib.hid hg
  rw [← hWL, ← hbs, ← hg] at HFI ⊢
  rw [← cpnP_nil] at HFI
  clear hWL hbs hg q0 q1 q2 HLT HFS
  refine range_pairs (gf := 63) (fst := #[.agg #[x, y, z]]) (lb := #[]) (xs := r.hs) (encs := heldV r) (Kp := KeepsBut fun k => w.heap.size ≤ k ∧ k < WL.heap.size) rfl (enters_of Try.func63 (by kernel_rfl) rfl)
    (riheld_in r x y z w WL _ HOK.out HREG.out (KeptC.of_below (Nat.le_refl _) HFI.out.old) (fun k hk => hk)) keepsBut_t keepsBut_b keepsBut_below (fun _ => rfl)
    (fun pre A => FI w bs g first n (cpnP r.secs first n pre) A) (fun _ _ _ => False)
    (FI.own (by have := HSZ.out; have := HGB.out; have := HG0.out; omega) _) (fun c pre A B row h hg hr => h.elim) (fun pre A B h hb => h.below hb) HFI.out
    (CAx r w WL.heap.size bs g first n (.agg #[x, y, z]))
    (fun pre x a' A l o o' hl ho hc h => by
      obtain ⟨b8, b9, h1, h2, h3, h4, h5, h6⟩ := h
      have hg := grownBy_putObj' A l o'
      have hr : ∀ r, (some l : Option Nat) = some r → WL.heap.size ≤ r ∧ ∃ o : Obj, A.heap[r]? = some o ∧ o.isCells = false := fun r e => by cases e; exact ⟨hl, o, ho, hc⟩
      exact ⟨b8, b9, h1, h2, cells_stay h3 hg hr, cells_stay h4 hg hr, h5.stay (by have := HSZ.out; have := HGB.out; have := HG0.out; omega) hg hr, h6⟩)
    ?assign ?body ?done ?stop
  case assign =>
    rintro l pre ⟨g0, g1, g2⟩ A K hp hI hK
    have HKK := Lib.hid hK
    have HII := Lib.hid hI
    have HXL : Hid (WL.heap.size ≤ A.heap.size) := Lib.hid (by
      have h1 := obj_lt hI.b7
      have := HSZ.out
      omega)
    unfold heldV
    obtain ⟨s, hs⟩ : ∃ s, s = secAt r.secs g0 := ⟨_, rfl⟩
    have HSS := Lib.hid hs
    simp only [← hs, hldC]
    obtain ⟨t0, t1, t2, t3, t4, t5, t6⟩ := s
    simp only [Sec.cells]
    clear hs hK hI hp
    gi_wp2
    refine HKK.out _ _ ⟨A.heap.size, A.heap.size + 1, HXL.out, by have := HXL.out; omega, ?_, ?_, HII.out.below (below2 A _ _), ?_⟩ (below2 A _ _)
    · rw [← HSS.out]; exact alloc1_at A _ _
    · exact alloc2_at A _ _
    · rw [← HSS.out]; rfl
  case body =>
    rintro l pre ⟨g0, g1, g2⟩ a' A hp ⟨b8, b9, h8l, h9l, h8, h9, hfi, rfl⟩
    have HS1 : Hid (w.heap.size + 1 + 1 < g) := Lib.hid (by have := HG0.out; omega)
    have HS3 : Hid ((fun k => w.heap.size ≤ k ∧ k < WL.heap.size) g) := Lib.hid (by show w.heap.size ≤ g ∧ g < WL.heap.size; have := HG0.out; have := HSZ.out; have := HGB.out; omega)
    have hgA : g < A.heap.size := obj_lt hfi.row
    have hx : (⟨g0, g1, g2⟩ : Hld) ∈ r.hs := hp.subset (by simp)
    have hkn := (HOK.out.known _ hx).2.1
    have hamt := (HOK.out.hld _ hx).amt
    have HFULL := Lib.hid (cpnQ_full r.secs first n pre ⟨g0, g1, g2⟩)
    have HBD := Lib.hid (fun k i hi => cpnQ_bound HOK.out (first := first) (n := n) hp k i hi)
    have HZ := Lib.hid (cpnQ_zero r.secs first n pre (secAt r.secs g0) g2)
    simp only at HFULL HBD hkn hamt
    simp only [hldC] at h9 ⊢
    generalize secAt r.secs g0 = s at *
    have HOUT := Lib.hid (fun k hk h => cpnQ_out (secs := r.secs) (first := first) (n := n) pre (s := s) (a := g2) (k := k) hk h)
    have HIN := Lib.hid (fun k i hk h hi => cpnQ_in (secs := r.secs) (first := first) (n := n) pre (s := s) (a := g2) (k := k) (i := i) hk h hi)
    have HQL := Lib.hid (fun k => cpnQ_len r.secs first n pre s g2 k)
    have HDI := Lib.hid (days_in hkn)
    have HCP : ∀ W, Hid (CallsIn (Fence.wide.inRound l) 0 Try.prog 33 #[.agg s.cells.toArray, .int .i64 g2] W fun e w' => e = .returned (.tuple #[.int .i64 (couponI s g2), .int .i64 0]) ∧ Below W.heap.size W w') := fun W => Lib.hid (CallsIn.inRound l (callsIn_wide.2 (cpCoupon_ok hkn.own g2 (by omega) (by omega) W)))
    have HDY : ∀ W, Hid (CallsIn (Fence.wide.inRound l) 0 Try.prog 34 #[.agg s.cells.toArray] W fun e w' => ∃ v, e = .returned v ∧ w'.ownsRow W.heap.size 3 1 v (daysQ s).length (cellsI (daysQ s)) ∧ Below W.heap.size W w') := fun W => Lib.hid (CallsIn.inRound l (callsIn_wide.2 (cpDays_ok hkn.own W)))
    have hml := days_len hkn
    obtain ⟨m, hm⟩ : ∃ m, m = (daysQ s).length := ⟨_, rfl⟩
    have HML := Lib.hid hm
    rw [← hm] at HDY HFULL hml
    obtain ⟨q, hq⟩ : ∃ q, q = couponI s g2 := ⟨_, rfl⟩
    rw [← hq] at HCP HBD HIN
    generalize daysQ s = days at *
    obtain ⟨F, hF⟩ : ∃ F : Nat → List Int, F = fun k => cpnQ r.secs first n pre s g2 k := ⟨_, rfl⟩
    have HF : ∀ k, cpnQ r.secs first n pre s g2 k = F k := fun k => by rw [hF]
    simp only [HF] at HFULL HOUT HIN HBD HQL HZ
    clear HF hF
    have HI0 : Hid (FI w bs g first n (F 0) A) := Lib.hid (by rw [HZ.out]; exact hfi)
    have H8 := Lib.hid h8
    obtain ⟨t0, t1, t2, t3, t4, t5, t6⟩ := s
    simp only [Sec.cells] at h8 H8 HCP HDY ⊢
    have e0 := obj_cell h8 0
    have e1 := obj_cell h8 1
    have e2 := obj_cell h8 2
    have e3 := obj_cell h8 3
    have e4 := obj_cell h8 4
    have e5 := obj_cell h8 5
    have e6 := obj_cell h8 6
    have k2 := obj_cell h9 2
    simp at e0 e1 e2 e3 e4 e5 e6 k2
    have hq0 : Hid (q = couponI ⟨t0, t1, t2, t3, t4, t5, t6⟩ g2) := Lib.hid hq
    clear hfi h8 h9 hx hp hm hkn HZ hq
    gi_wp2_with (first
      | (refine ⟨trivial, rfl, ?_⟩; gi_at_call 33; refine ((HCP _).out).mono ?_; rintro e W2 ⟨rfl, hb2⟩; (have h82 := obj_below H8.out hb2); (have m0 := obj_cell h82 0); (have m1 := obj_cell h82 1); (have m2 := obj_cell h82 2); (have m3 := obj_cell h82 3); (have m4 := obj_cell h82 4); (have m5 := obj_cell h82 5); (have m6 := obj_cell h82 6); simp at m0 m1 m2 m3 m4 m5 m6; (have HB2 := Lib.hid hb2); clear hb2 h82 e0 e1 e2 e3 e4 e5 e6)
      | (refine ⟨trivial, rfl, ?_⟩; gi_at_call 34; refine ((HDY _).out).mono ?_; rintro e W3 ⟨vd, rfl, hod, hb3⟩; obtain ⟨ao, cap, rfl, hcap, hao⟩ := owns_gen hod; (have HOD := Lib.hid hod); (have HB3 := Lib.hid hb3); clear hod hb3))
    have HB23 : Hid (Below A.heap.size A W3) := Lib.hid (HB2.out.trans (HB3.out.mono HB2.out.size))
    have HI3 := Lib.hid (HI0.out.below HB23.out)
    have HST3 : Hid (StepB (fun k => w.heap.size ≤ k ∧ k < WL.heap.size) A W3) := Lib.hid (stepB_below HB23.out)
    have HNB : Hid (g < W2.heap.size) := Lib.hid (by have := HB2.out.size; omega)
    clear m0 m1 m2 m3 m4 m5 m6 HB23 HB3 HI0 HCP HDY H8 k2
    gi_loopw [31] (fun iv wr => ∃ k : Nat, iv = .int .i64 (k : Int) ∧ k ≤ m ∧ Hid (FI w bs g first n (F k) wr) ∧ Hid (wr.ownsRow W2.heap.size 3 1 (.slice ao m cap) m (cellsI days)) ∧ Hid (StepB (fun k => w.heap.size ≤ k ∧ k < WL.heap.size) A wr)) (fun iv _ => m - (RowKit.intOf iv).toNat)
    case atStart => exact ⟨0, rfl, by omega, HI3, HOD, HST3⟩
    case round =>
      clear HI3 HOD HST3
      obtain ⟨k, rfl, hkm, HIK, HOW, HSK⟩ := hrel
      by_cases hlk : k < m
      · obtain ⟨gd, rfl, hgd⟩ := hao.resolve_left (by omega)
        have hkd : k < days.length := by rw [← HML.out]; exact hlk
        have hdx := HDI.out days[k] (List.getElem_mem hkd)
        have cd : wr.cell? ⟨gd, k, none⟩ = some (.int .i64 days[k]) := by
          rw [HOW.out.cellAt k (by omega), cellsI_get _ _ hkd]; simp [List.getD, hkd]
        have HOUTk := Lib.hid (HOUT.out k hkd)
        have HINk := Lib.hid (fun i => HIN.out k i hkd)
        generalize days[k] = d at *
        have HYR : ∀ W, Hid (CallsIn (Fence.wide.inRound l) 0 Try.prog 101 #[.int .i64 d] W fun e w' => e = .returned (.int .i64 (d / 360)) ∧ W = w') := fun W => Lib.hid (CallsIn.inRound l (callsIn_wide.2 (cYear_yes d W (dayB_true.2 ⟨by omega, by omega⟩))))
        obtain ⟨dd, hdd⟩ : ∃ dd, dd = d / 360 := ⟨_, rfl⟩
        have hdd0 : 0 ≤ dd ∧ dd ≤ 100 := by omega
        rw [← hdd] at HYR HOUTk HINk
        have hwd : IntKind.i64.wrap (dd - first) = dd - first := IntWalk.i64_in _ (by omega)
        have hwk : IntKind.i64.wrap ((k : Int) + 1) = (k : Int) + 1 := IntWalk.i64_in _ (by omega)
        have hk0 : (0 : Int) ≤ (k : Int) := by omega
        have hk1 : (k : Int) < (m : Int) := by omega
        have hh4 := HIK.out.b4
        have hh5 := HIK.out.b5
        have hh7 := HIK.out.b7
        have c4 := obj_cell hh4 0
        have c5 := obj_cell hh5 0
        have c7 := obj_cell hh7 0
        simp at c4 c5 c7
        clear hh4 hh5 hh7 hdd hdx hkd
        by_cases hin : 0 ≤ dd - first ∧ dd - first < (n : Int)
        · obtain ⟨i, hi⟩ : ∃ i : Nat, dd - first = (i : Int) := ⟨(dd - first).toNat, by omega⟩
          have hin2 : i < n := by omega
          obtain ⟨o0, o1, o2, o3⟩ := HBD.out k i hin2
          have HL2 := Lib.hid (HINk.out i hi hin2)
          obtain ⟨old, hold⟩ : ∃ old, old = (F k).getD i 0 := ⟨_, rfl⟩
          rw [← hold] at o0 o1 HL2
          have cr : wr.cell? ⟨g, i, none⟩ = some (.int .i64 old) := by
            have := obj_cell HIK.out.row i
            simp only [List.getElem?_toArray] at this
            rw [this, hold]; exact cellsI_get (F k) i (by rw [HQL.out]; exact hin2)
          have fr := obj_free HIK.out.row i
          have hwo : IntKind.i64.wrap (old + q) = old + q := IntWalk.i64_in _ (by omega)
          have hi0 : (0 : Int) ≤ (i : Int) := by omega
          have hi1 : (i : Int) < (n : Int) := by omega
          replace hwd : IntKind.i64.wrap (dd - first) = (i : Int) := by rw [hwd, hi]
          have hdr : Below (wr.setCell ⟨g, i, none⟩ (.int .i64 (old + q))).heap.size (wr.setCell ⟨g, i, none⟩ (.int .i64 (old + q))) (wr.setCell ⟨g, i, none⟩ (.int .i64 (old + q))).drew := (Below.refl _ _).drew
          have HE1 : Hid (FI w bs g first n (F (k + 1)) (wr.setCell ⟨g, i, none⟩ (.int .i64 (old + q))).drew) := Lib.hid (by rw [HL2.out]; exact (HIK.out.set HS1.out HGB.out i (old + q)).below hdr)
          have HE2 : Hid ((wr.setCell ⟨g, i, none⟩ (.int .i64 (old + q))).drew.ownsRow W2.heap.size 3 1 (.slice (some ⟨gd, 0, none⟩) m cap) m (cellsI days)) := Lib.hid (ownsRow_below (HOW.out.kept (setCell_grown _ _) (.inr fun e => by have e2 : gd = g := (by first | (injection e) | (injection e.symm)); have := HNB.out; omega)) hdr)
          have HE3 : Hid (StepB (fun k => w.heap.size ≤ k ∧ k < WL.heap.size) A (wr.setCell ⟨g, i, none⟩ (.int .i64 (old + q))).drew) := Lib.hid (HSK.out.trans ((stepB_set HS3.out).trans (stepB_below hdr)))
          clear hold HINk HOUTk hin hi hdr HL2
          gi_wp2
          gi_region_with_o (refine ⟨trivial, rfl, ?_⟩; gi_at_call 101; refine ((HYR _).out).mono ?_; rintro e w' ⟨rfl, rfl⟩)
          all_goals
            gi_wp2
            go_roundw
          all_goals first
            | exact ⟨k + 1, by first | rfl | go_num, by omega, HE1, HE2, HE3⟩
            | (simp [RowKit.intOf]; omega)
        · have HL2 := Lib.hid (HOUTk.out hin)
          have hdr : Below wr.heap.size wr wr.drew := (Below.refl _ _).drew
          have HE1 : Hid (FI w bs g first n (F (k + 1)) wr.drew) := Lib.hid (by rw [HL2.out]; exact HIK.out.below hdr)
          have HE2 : Hid (wr.drew.ownsRow W2.heap.size 3 1 (.slice (some ⟨gd, 0, none⟩) m cap) m (cellsI days)) := Lib.hid (ownsRow_below HOW.out hdr)
          have HE3 : Hid (StepB (fun k => w.heap.size ≤ k ∧ k < WL.heap.size) A wr.drew) := Lib.hid (HSK.out.trans (stepB_below hdr))
          clear HINk HOUTk HL2 hdr
          by_cases hneg : 0 ≤ dd - first
          · have hge : (n : Int) ≤ dd - first := by omega
            clear hin
            gi_wp2
            gi_region_with_o (refine ⟨trivial, rfl, ?_⟩; gi_at_call 101; refine ((HYR _).out).mono ?_; rintro e w' ⟨rfl, rfl⟩)
            all_goals
              gi_wp2
              go_roundw
            all_goals first
              | exact ⟨k + 1, by first | rfl | go_num, by omega, HE1, HE2, HE3⟩
              | (simp [RowKit.intOf]; omega)
          · clear hin
            gi_wp2
            gi_region_with_o (refine ⟨trivial, rfl, ?_⟩; gi_at_call 101; refine ((HYR _).out).mono ?_; rintro e w' ⟨rfl, rfl⟩)
            all_goals
              gi_wp2
              go_roundw
            all_goals first
              | exact ⟨k + 1, by first | rfl | go_num, by omega, HE1, HE2, HE3⟩
              | (simp [RowKit.intOf]; omega)
      · obtain rfl : k = m := by omega
        have HEND : Hid (KeepsOthers A wr ∧ KeepsBut (fun k => w.heap.size ≤ k ∧ k < WL.heap.size) A wr ∧ FI w bs g first n (cpnP r.secs first n (pre ++ [⟨g0, g1, g2⟩])) wr) := Lib.hid ⟨HSK.out.keeps.1, HSK.out.keeps.2, by rw [← HFULL.out]; exact HIK.out⟩
        gi_wp2
        exact HEND.out
  case done =>
    rintro D A hD hfi hK
    have hh7 := hfi.b7
    have c7 := obj_cell hh7 0
    simp at c7
    have HFI := Lib.hid hfi
    have HKK := Lib.hid hK
    clear hfi hh7 hK
    gi_wp2
    have hN : w.heap.size ≤ WL.heap.size := by have := HSZ.out; have := HGB.out; have := HG0.out; omega
    have hfi2 := HFI.out.stay (N := WL.heap.size) hN (grownBy_putObj' A D (.deferred none)) (fun q e => by cases e; exact ⟨hD, _, HKK.out, rfl⟩)
    refine ⟨by simp, .inl ⟨_, _, rfl, run_takeDeferred HKK.out, ?_⟩⟩
    refine ⟨_, results_tmp rfl _ _ _, _, rfl, ?_, hfi2.old⟩
    rw [← cpnP_all]
    exact heap_row hfi2.row (by have := HG0.out; omega) (by simp [cellsI, cpnP_len]) (by unfold maxLen; omega)
  case stop =>
    rintro D c pre A hD hpre h hK
    exact h.elim

end Go.Proofs.Ytblidmkkbcobgaa
