/- coupon.Until's parts: the worth of a holding (a closure on a security), and the sum over the holdings of a security. -/
import Derived.Test.YtblidmkkbcobgaaMG2
import Derived.Test.YtblidmkkbcobgaaMG5
import Derived.Test.YtblidmkkbcobgaaMRzD
set_option linter.unusedSimpArgs false
set_option linter.unusedVariables false
set_option linter.unusedSimpArgs false
set_option linter.unusedVariables false
namespace Go.Proofs.Ytblidmkkbcobgaa
open Go.RowKit Go.Lib Go.Proofs

/-- The coupons of the holdings of a security. -/
def cpnO (s : Sec) : List Hld → Int
  | [] => 0
  | h :: l => (if h.sec = s.id then couponI s h.amt else 0) + cpnO s l
theorem cpnO_app (s : Sec) : ∀ l m : List Hld, cpnO s (l ++ m) = cpnO s l + cpnO s m
  | [], m => by simp [cpnO]
  | h :: l, m => by simp only [List.cons_append, cpnO, cpnO_app s l m]; omega
theorem cpnO_in {s : Sec} (hs : SecR s) : ∀ {l : List Hld}, (∀ h ∈ l, HldOk h) → 0 ≤ cpnO s l ∧ cpnO s l ≤ sumH (fun _ => true) l
  | [], _ => by simp [cpnO, sumH]
  | h :: l, k => by
    have ih := cpnO_in hs (l := l) fun x hx => k x (List.mem_cons_of_mem _ hx)
    have h1 := (k h List.mem_cons_self).amt
    have h2 := coupon_in hs (a := h.amt) (by omega)
    simp only [cpnO, sumH, if_true]
    split <;> omega
theorem cpnO_take {s : Sec} (hs : SecR s) {r : Reg} (h : RegOk r) (k : Nat) : 0 ≤ cpnO s (r.hs.take k) ∧ cpnO s (r.hs.take k) ≤ 20000000000000 := by
  have h1 := cpnO_in hs (l := r.hs.take k) fun x hx => h.hld x (List.mem_of_mem_take hx)
  have h2 := sumH_le (p := fun _ => true) (l := r.hs.drop k) fun x hx => h.hld x (List.mem_of_mem_drop hx)
  have h3 := h.debt_in
  have h4 : debtM r.hs = sumH (fun _ => true) (r.hs.take k) + sumH (fun _ => true) (r.hs.drop k) := by
    unfold debtM
    rw [← sumH_app, List.take_append_drop]
  omega

set_option maxHeartbeats 1000000 in
theorem cpUntilW_any {s : Sec} {z r : Int} (h : SecOk s z r) (bX : Nat) (a : Int) (a0 : 0 ≤ a) (a1 : a ≤ 1000000000000) (W : World) (hx : W.heap[bX]? = some (.cells s.cells.toArray 55 (0, 0))) :
    Calls Try.prog 72 (#[.int .i64 a] ++ #[.pointer (some ⟨bX, 0, none⟩)]) W fun e W' => e = .returned (.int .i64 (couponI s a)) ∧ Below W.heap.size W W' := by
  have HC := Lib.hid (cpCoupon_ok h a a0 a1 W)
  obtain ⟨c, hc⟩ : ∃ c, c = couponI s a := ⟨_, rfl⟩
  rw [← hc] at HC ⊢
  obtain ⟨t0, t1, t2, t3, t4, t5, t6⟩ := s
  simp only [Sec.cells] at hx HC
  have x0 := obj_cell hx 0
  have x1 := obj_cell hx 1
  have x2 := obj_cell hx 2
  have x3 := obj_cell hx 3
  have x4 := obj_cell hx 4
  have x5 := obj_cell hx 5
  have x6 := obj_cell hx 6
  simp at x0 x1 x2 x3 x4 x5 x6
  clear h hc hx
  go_enter Try.func72, Try.ntmps72
  go_wp2_with fail
  refine HC.out.mono ?_
  rintro e w2 ⟨rfl, hb2⟩
  have HB2 := Lib.hid hb2
  clear hb2 HC
  go_wp2
  go_ret
  exact ⟨rfl, HB2.out⟩

set_option maxHeartbeats 4000000 in
theorem cpsum_ok {r : Reg} {s : Sec} (x y z : Value) (bX : Nat) (w : World) (h : RegOk r) (hs : SecR s) (hr : RegAt w x y z r) (hx : w.heap[bX]? = some (.cells s.cells.toArray 55 (0, 0))) :
    Calls Try.prog 71 #[.agg #[x, y, z], .agg s.cells.toArray, .func (.func 72) #[] #[.pointer (some ⟨bX, 0, none⟩)]] w fun e w' => e = .returned (.int .i64 (cpnO s r.hs)) ∧ Below w.heap.size w w' := by
  have eg := enters_of Try.func72 (by kernel_rfl) rfl
  obtain ⟨zz, rr, hso⟩ := hs
  have HW := Lib.hid (fun (a : Int) (h0 : 0 ≤ a ∧ a ≤ 1000000000000) W (hW : Below w.heap.size w W) => cpUntilW_any hso bX a h0.1 h0.2 W (obj_below hx hW))
  have HTK := Lib.hid (fun k => cpnO_take ⟨zz, rr, hso⟩ h k)
  have HHD := Lib.hid h.hld
  obtain ⟨a0, n0, c0, b0, m0, d0, e0, k0, f0, rfl, rfl, rfl⟩ := hr.slices
  obtain ⟨ao, cap, e1, hcap, hsh⟩ := hr.hs.shape hldF
  injection e1 with e1 e2 e3
  subst e1
  have HSH := Lib.hid hsh
  have HLE := Lib.hid e2
  have hmr : m0 ≤ 1000000 := by have := h.hsLen; omega
  have HTA : Hid (cpnO s r.hs = cpnO s (r.hs.take m0)) := Lib.hid (by rw [e2, List.take_length])
  obtain ⟨T, hT⟩ : ∃ T, T = cpnO s r.hs := ⟨_, rfl⟩
  rw [← hT] at HTA ⊢
  obtain ⟨f, hf⟩ : ∃ f : Nat → Int, f = fun k => cpnO s (r.hs.take k) := ⟨_, rfl⟩
  have hf0 : f 0 = 0 := by rw [hf]; rfl
  have HFT : Hid (T = f m0) := Lib.hid (by rw [hf]; exact HTA.out)
  have HFB : Hid (∀ k, 0 ≤ f k ∧ f k ≤ 20000000000000) := Lib.hid (by rw [hf]; exact HTK.out)
  have HFS : Hid (∀ k (hk : k < r.hs.length), f (k + 1) = f k + (if (r.hs[k]).sec = s.id then couponI s (r.hs[k]).amt else 0)) := Lib.hid (fun k hk => by
    rw [hf]
    simp only
    rw [List.take_succ_eq_append_getElem hk, cpnO_app]
    simp [cpnO])
  have HB1 := Lib.hid (below2 w (.cells #[.slice a0 n0 c0, .slice b0 m0 d0, .slice e0 k0 f0] 29) (.cells s.cells.toArray 55))
  have HX1 := Lib.hid (alloc1_at w (.cells #[.slice a0 n0 c0, .slice b0 m0 d0, .slice e0 k0 f0] 29) (.cells s.cells.toArray 55))
  have HX2 := Lib.hid (alloc2_at w (.cells #[.slice a0 n0 c0, .slice b0 m0 d0, .slice e0 k0 f0] 29) (.cells s.cells.toArray 55))
  obtain ⟨t0, t1, t2, t3, t4, t5, t6⟩ := s
  simp only [Sec.cells] at HB1 HX1 HX2 HFS ⊢
  obtain ⟨w1, hw1⟩ : ∃ W, W = (w.alloc (.cells #[.slice a0 n0 c0, .slice b0 m0 d0, .slice e0 k0 f0] 29)).alloc (.cells #[.int .i64 t0, .int .i64 t1, .int .i64 t2, .int .i64 t3, .int .i64 t4, .int .i64 t5, .bool t6] 55) := ⟨_, rfl⟩
  rw [← hw1] at HB1 HX1 HX2
  clear h hso hr hx hT hf hcap hsh e2 e3 HTK HTA
  go_enter Try.func71, Try.ntmps71
  go_upto_region 1 with fail
  rw [← hw1]
  clear hw1
  have hA := HX1.out
  have u1 := obj_cell hA 1
  simp at u1
  clear hA
  go_wp2
  clear u1
  go_loopw [7, 13] (fun sv iv wr => ∃ k : Nat, sv = .int .i64 (f k) ∧ iv = .int .i64 (k : Int) ∧ k ≤ m0 ∧ Hid (Below w1.heap.size w1 wr)) (fun _ iv _ => m0 - (RowKit.intOf iv).toNat)
  case atStart => exact ⟨0, by rw [hf0], rfl, by omega, Lib.hid (Below.refl _ _)⟩
  case round =>
    obtain ⟨k, rfl, rfl, hkm, HBW⟩ := hrel
    by_cases hlk : k < m0
    · have hlr : k < r.hs.length := by have := HLE.out; omega
      obtain ⟨bl, ol, rfl, hbl, hcc⟩ := HSH.out (by omega)
      have hc := hcc k hlr
      have hxm : r.hs[k] ∈ r.hs := List.getElem_mem hlr
      have hfs := HFS.out k hlr
      have hho := HHD.out _ hxm
      generalize r.hs[k] = x at hc hxm hfs hho
      obtain ⟨g0, g1, g2⟩ := x
      simp only at hfs
      have hBl : bl < w1.heap.size := Nat.lt_of_lt_of_le hbl HB1.out.size
      have hcell := fun j => (HBW.out.cell (p := ⟨bl, ol + k * 3 + j, none⟩) hBl).trans (HB1.out.cell (p := ⟨bl, ol + k * 3 + j, none⟩) hbl)
      have g00 : wr.cell? ⟨bl, ol + k * 3, none⟩ = some (.int .i64 g0) := (hcell 0).trans (hc 0 (by omega))
      have g01 : wr.cell? ⟨bl, ol + k * 3 + 1, none⟩ = some (.int .i64 g1) := (hcell 1).trans (hc 1 (by omega))
      have g02 : wr.cell? ⟨bl, ol + k * 3 + 2, none⟩ = some (.int .i64 g2) := (hcell 2).trans (hc 2 (by omega))
      have ham : 0 ≤ g2 ∧ g2 ≤ 1000000000000 := by have := hho.amt; simp only at this; omega
      have HB8 := Lib.hid (HBW.out.alloc HBW.out.size (.cells #[.int .i64 g0, .int .i64 g1, .int .i64 g2] 53))
      have hxb := heap_alloc_new wr (.cells #[.int .i64 g0, .int .i64 g1, .int .i64 g2] 53)
      obtain ⟨bH, hbH⟩ : ∃ b, b = wr.heap.size := ⟨_, rfl⟩
      obtain ⟨w8, hw8⟩ : ∃ W, W = wr.alloc (.cells #[.int .i64 g0, .int .i64 g1, .int .i64 g2] 53) := ⟨_, rfl⟩
      rw [← hw8] at HB8 hxb
      rw [← hbH] at hxb
      have h80 := obj_cell hxb 0
      have h82 := obj_cell hxb 2
      simp at h80 h82
      have hA := obj_below HX2.out HB8.out
      have y0 := obj_cell hA 0
      simp at y0
      have hk0 : (0 : Int) ≤ (k : Int) := by omega
      have hk1 : (k : Int) < (m0 : Int) := by omega
      have hwk : IntKind.i64.wrap ((k : Int) + 1) = (k : Int) + 1 := IntWalk.i64_in _ (by omega)
      have hb1 := HFB.out k
      have hb2 := HFB.out (k + 1)
      obtain ⟨fk, hfk⟩ : ∃ q, q = f k := ⟨_, rfl⟩
      obtain ⟨fn, hfn⟩ : ∃ q, q = f (k + 1) := ⟨_, rfl⟩
      have HFN := Lib.hid hfn
      rw [← hfk] at hb1 hfs ⊢
      rw [← hfn] at hb2 hfs
      clear hcc hc hxm hxb hlr hho hcell hfk hfn hA
      go_upto_region 5 with fail
      rw [← hw8, ← hbH]
      clear hw8 hbH g00 g01 g02 hbl hBl
      by_cases hid : g0 = t0
      · rw [if_pos hid] at hfs
        have hidb : (g0 == t0) = true := by rw [hid]; simp
        have hws : ∀ q, fn = fk + q → IntKind.i64.wrap (fk + q) = fn := fun q e => by rw [← e]; exact IntWalk.i64_in _ (by omega)
        have hw1 := hws _ hfs
        obtain ⟨q, hq⟩ : ∃ q, q = couponI ⟨t0, t1, t2, t3, t4, t5, t6⟩ g2 := ⟨_, rfl⟩
        have HWQ := Lib.hid (HW.out g2 ham w8 (HB1.out.trans (HB8.out.mono HB1.out.size)))
        rw [← hq] at hw1 HWQ
        clear hws hfs hq
        go_wp2_with fail
        refine HWQ.out.mono ?_
        rintro e w9 ⟨rfl, hb9⟩
        have HB9 := Lib.hid (HB8.out.trans (hb9.mono HB8.out.size))
        clear hb9
        go_wp2
        go_roundw
        case rel => exact ⟨k + 1, by rw [← HFN.out], by first | rfl | go_num, by omega, HB9⟩
        case measure => simp [RowKit.intOf]; omega
      · rw [if_neg hid, Int.add_zero] at hfs
        have hidb : (g0 == t0) = false := beq_eq_false_iff_ne.2 hid
        have HFE := Lib.hid (hfs.symm.trans HFN.out)
        clear hfs
        go_wp2
        go_roundw
        case rel => exact ⟨k + 1, by rw [← HFE.out], by first | rfl | go_num, by omega, HB8⟩
        case measure => simp [RowKit.intOf]; omega
    · obtain rfl : k = m0 := by omega
      have HE := Lib.hid (HB1.out.trans (HBW.out.mono HB1.out.size))
      have HTF := HFT.out
      rw [← HTF]
      go_wp2
      go_ret
      exact ⟨rfl, HE.out⟩

end Go.Proofs.Ytblidmkkbcobgaa
