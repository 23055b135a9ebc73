/- coupon.Until of a right register, from the first day to the last: all flows of its debt. -/
import Derived.Test.YtblidmkkbcobgaaMCfM
import Derived.Test.YtblidmkkbcobgaaMCfT
import Derived.Test.YtblidmkkbcobgaaMG6
set_option linter.unusedSimpArgs false
set_option linter.unusedVariables false
set_option linter.unusedSimpArgs false
set_option linter.unusedVariables false
namespace Go.Proofs.Ytblidmkkbcobgaa
open Go.RowKit Go.Lib Go.Proofs

theorem isDay_yes (d : Int) (h0 : 0 ≤ d) (h1 : d ≤ 35990) (w : World) : Calls Try.prog 68 #[.int .i64 d] w fun e w' => e = .returned (.bool true) ∧ w = w' := by
  go_enter Try.func68, Try.ntmps68
  go_wp2
  go_ret
  exact ⟨rfl, rfl⟩

/-- A world within Until. -/
structure UnI (w : World) (bL : Nat) (x y z : Value) (l : List Flw) (v : Value) (W : World) : Prop where
  box : W.heap[w.heap.size]? = some (.cells #[x, y, z] 29 (0, 0))
  bf : W.heap[w.heap.size + 1]? = some (.cells #[.int .i64 0] 3 (0, 0))
  bt : W.heap[w.heap.size + 1 + 1]? = some (.cells #[.int .i64 35990] 3 (0, 0))
  pay : PayAt (bL + 1) bL l v W
  old : Below w.heap.size w W
  lo : w.heap.size + 1 + 1 < bL
theorem UnI.below {w : World} {bL : Nat} {x y z : Value} {l : List Flw} {v : Value} {A B : World} (h : UnI w bL x y z l v A) (hb : Below A.heap.size A B) : UnI w bL x y z l v B :=
  ⟨obj_below h.box hb, obj_below h.bf hb, obj_below h.bt hb, ⟨obj_below h.pay.box hb, ownsRow_below h.pay.own hb⟩, h.old.trans (hb.mono h.old.size), h.lo⟩
theorem box_paid {bL : Nat} {l : List Flw} {v : Value} {A M B : World} {b : Nat} {T : TypeId} {cs : Array Value} (hp : PayAt (bL + 1) bL l v A) (h : A.heap[b]? = some (.cells cs T (0, 0))) (hT : T ≠ 70) (hb : b ≠ bL) (h1 : A.grownBy M v.ownBlock) (h2 : M.grownBy B (some bL)) : B.heap[b]? = some (.cells cs T (0, 0)) := by
  have hm := obj_apart h hp.own hT h1
  exact (h2.block b (obj_lt hm) (by simp; omega)).trans hm
theorem UnI.paid {w : World} {bL : Nat} {x y z : Value} {l l2 : List Flw} {v v2 : Value} {A M B : World} (h : UnI w bL x y z l v A) (hp : PayAt (bL + 1) bL l2 v2 B) (h1 : A.grownBy M v.ownBlock) (h2 : M.grownBy B (some bL)) : UnI w bL x y z l2 v2 B := by
  have hlo := h.lo
  refine ⟨box_paid h.pay h.box (by decide) (by omega) h1 h2, box_paid h.pay h.bf (by decide) (by omega) h1 h2, box_paid h.pay h.bt (by decide) (by omega) h1 h2, hp, ?_, h.lo⟩
  have hm : Below w.heap.size w M := h.old.grown h1 h.old.size fun j e => by have := ownBlock_le h.pay.own j e; omega
  exact hm.grown h2 hm.size fun j e => by injection e with e; omega
theorem row_paid {bL base : Nat} {l : List Flw} {v u : Value} {A M B : World} {n : Nat} {xs : List Value} (hp : PayAt (bL + 1) bL l v A) (h : A.ownsRow base 3 1 u n xs) (hb : bL < base) (h1 : A.grownBy M v.ownBlock) (h2 : M.grownBy B (some bL)) : B.ownsRow base 3 1 u n xs :=
  (owns_apart h hp.own (by decide) h1).kept h2 (ownBlock_ne (owns_apart h hp.own (by decide) h1) bL hb)
def UntilPost (r : Reg) (w : World) (e : Ending) (w' : World) : Prop := ∃ (v : Value) (l : List Flw), e = .returned (.tuple #[v, .int .i64 0]) ∧ l.Perm (untilL r) ∧ w'.ownsRow w.heap.size 70 4 v l.length (cellsL flowC l) ∧ Below w.heap.size w w'

set_option maxRecDepth 100000 in
set_option maxHeartbeats 16000000 in
theorem cpUntil_ok (r : Reg) (x y z : Value) (w : World) (h : RegOk r) (hr : RegAt w x y z r) (hlen : (untilL r).length < 20) :
    Calls Try.prog 32 #[.agg #[x, y, z], .int .i64 0, .int .i64 35990] w (UntilPost r w) := by
  obtain ⟨a0, n0, c0, b0, m0, d0, e0, k0, f0, rfl, rfl, rfl⟩ := hr.slices
  obtain ⟨w0, hw0⟩ : ∃ W, W = ((w.alloc (.cells #[.slice a0 n0 c0, .slice b0 m0 d0, .slice e0 k0 f0] 29)).alloc (.cells #[.int .i64 0] 3)).alloc (.cells #[.int .i64 35990] 3) := ⟨_, rfl⟩
  have HB0 : Hid (Below w.heap.size w w0) := Lib.hid (by rw [hw0]; exact ((((Below.refl w.heap.size w).alloc (Nat.le_refl _) _).alloc (by simp) _).alloc (by simp; omega) _))
  have HX0 : Hid (w0.heap[w.heap.size]? = some (.cells #[.slice a0 n0 c0, .slice b0 m0 d0, .slice e0 k0 f0] 29 (0, 0)) ∧ w0.heap[w.heap.size + 1]? = some (.cells #[.int .i64 0] 3 (0, 0)) ∧ w0.heap[w.heap.size + 1 + 1]? = some (.cells #[.int .i64 35990] 3 (0, 0)) ∧ w.heap.size + 1 + 1 < w0.heap.size) := Lib.hid (by
    rw [hw0]
    refine ⟨obj_below (obj_below (heap_alloc_new w _) (below_alloc _ _)) (below_alloc _ _), ?_, ?_, by simp⟩
    · have := heap_alloc_new (w.alloc (.cells #[.slice a0 n0 c0, .slice b0 m0 d0, .slice e0 k0 f0] 29)) (.cells #[.int .i64 0] 3)
      rw [World.size_alloc] at this
      exact obj_below this (below_alloc _ _)
    · have := heap_alloc_new ((w.alloc (.cells #[.slice a0 n0 c0, .slice b0 m0 d0, .slice e0 k0 f0] 29)).alloc (.cells #[.int .i64 0] 3)) (.cells #[.int .i64 35990] 3)
      rw [World.size_alloc, World.size_alloc] at this
      exact this)
  have HCK := Lib.hid (rxCheck_any r _ _ _ w0 h.regS (hr.below HB0.out))
  rw [checkR_ok h] at HCK
  have HD0 := Lib.hid (fun W => isDay_yes 0 (by omega) (by omega) W)
  have HD1 := Lib.hid (fun W => isDay_yes 35990 (by omega) (by omega) W)
  have HOK := Lib.hid h
  have HRG := Lib.hid hr
  have HLN := Lib.hid hlen
  obtain ⟨hx0, hx1, hx2, -⟩ := HX0.out
  have s0 := obj_cell hx0 0
  have s1 := obj_cell hx0 1
  have s2 := obj_cell hx0 2
  have s3 := obj_cell hx1 0
  have s4 := obj_cell hx2 0
  simp at s0 s1 s2 s3 s4
  unfold UntilPost
  clear h hr hlen hx0 hx1 hx2
  go_enter Try.func32, Try.ntmps32
  go_upto_region 1 with fail
  rw [← hw0]
  clear hw0
  go_wp2_with fail
  refine HCK.out.mono ?_
  rintro e w1 ⟨rfl, hb1⟩
  obtain ⟨q0, q1, q2, q3⟩ := HX0.out
  have HB1 := Lib.hid (HB0.out.trans (hb1.mono HB0.out.size))
  have HX1 : Hid (w1.heap[w.heap.size]? = some (.cells #[.slice a0 n0 c0, .slice b0 m0 d0, .slice e0 k0 f0] 29 (0, 0)) ∧ w1.heap[w.heap.size + 1]? = some (.cells #[.int .i64 0] 3 (0, 0)) ∧ w1.heap[w.heap.size + 1 + 1]? = some (.cells #[.int .i64 35990] 3 (0, 0)) ∧ w.heap.size + 1 + 1 < w1.heap.size) := Lib.hid ⟨obj_below q0 hb1, obj_below q1 hb1, obj_below q2 hb1, Nat.lt_of_lt_of_le q3 hb1.size⟩
  have t3 := obj_cell HX1.out.2.1 0
  have t4 := obj_cell HX1.out.2.2.1 0
  simp at t3 t4
  clear hb1 q0 q1 q2 q3 s0 s1 s2 s3 s4 HCK HX0 HB0
  go_wp2_with fail
  refine (HD0.out _).mono ?_
  rintro e w' ⟨rfl, rfl⟩
  go_wp2_with fail
  refine (HD1.out _).mono ?_
  rintro e w' ⟨rfl, rfl⟩
  obtain ⟨bL, hbL⟩ : ∃ b, b = w1.heap.size := ⟨_, rfl⟩
  obtain ⟨w2, hw2⟩ : ∃ W, W = w1.alloc (.cells #[.slice none 0 0] 66) := ⟨_, rfl⟩
  have HU2 : Hid (UnI w bL (.slice a0 n0 c0) (.slice b0 m0 d0) (.slice e0 k0 f0) [] (.slice none 0 0) w2) := Lib.hid (by
    obtain ⟨q0, q1, q2, q3⟩ := HX1.out
    rw [hw2, hbL]
    exact ⟨obj_below q0 (below_alloc _ _), obj_below q1 (below_alloc _ _), obj_below q2 (below_alloc _ _), ⟨heap_alloc_new _ _, World.ownsRow_nil _ _ _ _⟩, HB1.out.alloc HB1.out.size _, q3⟩)
  go_upto_region 7 with fail
  rw [← hw2, ← hbL]
  clear hw2 hbL t3 t4 HX1 HB1 HD0 HD1
  have hA := HU2.out.box
  have s0 := obj_cell hA 0
  have s1 := obj_cell hA 1
  have s2 := obj_cell hA 2
  simp at s0 s1 s2
  clear hA
  obtain ⟨ao, cap, e1, hcap, hsh⟩ := HRG.out.secs.shape secF
  injection e1 with e1 e2 e3
  subst e1
  have HSH := Lib.hid hsh
  have HLE := Lib.hid e2
  have hmr : n0 ≤ 1000000 := by have := HOK.out.secs.len; omega
  have eg := enters_of Try.func69 (by kernel_rfl) rfl
  clear hsh hcap e3 e2
  go_wp2
  clear s0 s1 s2
  go_loopw [33] (fun iv wr => ∃ (k : Nat) (l : List Flw) (v : Value), iv = .int .i64 (k : Int) ∧ k ≤ n0 ∧ Hid (l = (r.secs.take k).flatMap (secL r)) ∧ Hid (UnI w bL (.slice a0 n0 c0) (.slice b0 m0 d0) (.slice e0 k0 f0) l v wr)) (fun iv _ => n0 - (RowKit.intOf iv).toNat)
  case atStart => exact ⟨0, [], _, rfl, by omega, Lib.hid (by simp), HU2⟩
  case round =>
    clear HU2
    obtain ⟨k, l, v, rfl, hkm, HL, HU⟩ := hrel
    by_cases hlk : k < n0
    · have hlr : k < r.secs.length := by have := HLE.out; omega
      obtain ⟨bl, ol, rfl, hbl, hcc⟩ := HSH.out (by omega)
      have hc := fun j hj => (HU.out.old.cell (p := ⟨bl, ol + k * 7 + j, none⟩) hbl).trans (hcc k hlr j hj)
      have hsm : r.secs[k] ∈ r.secs := List.getElem_mem hlr
      have htk : r.secs.take (k + 1) = r.secs.take k ++ [r.secs[k]] := List.take_succ_eq_append_getElem hlr
      generalize r.secs[k] = s at hc hsm htk
      have HSR := Lib.hid (HOK.out.secs.ok s hsm)
      have HTK := Lib.hid htk
      obtain ⟨D, hD⟩ : ∃ D, D = daysQ s := ⟨_, rfl⟩
      obtain ⟨C, hC⟩ : ∃ C, C = cpnO s r.hs := ⟨_, rfl⟩
      obtain ⟨O, hO⟩ : ∃ O, O = outM r.hs s.id := ⟨_, rfl⟩
      have HSL : Hid (secL r s = (D.flatMap fun d => payM s.id d C) ++ payM s.id s.mat O) := Lib.hid (by rw [hD, hC, hO]; rfl)
      have HDB := Lib.hid hD
      have HOQ := Lib.hid hO
      have HMT : Hid (0 ≤ s.mat ∧ s.mat ≤ 35990) := Lib.hid (by obtain ⟨z, q, k⟩ := HSR.out; have h4 : 0 ≤ z * q := Int.mul_nonneg (by rcases k.ev with e | e | e | e | e <;> omega) (by have := k.r0; omega); have := k.iss0; have := k.term; have := k.mat1; omega)
      have hCin := cpnO_in HSR.out HOK.out.hld
      have hOin := (sumH_le (p := isOf s.id) HOK.out.hld)
      have hdl := days_len HSR.out
      have HDI : Hid (∀ d ∈ D, 0 ≤ d ∧ d ≤ 35990) := Lib.hid (by rw [hD]; exact days_in HSR.out)
      have hdebt := HOK.out.debt_in
      rw [← hC] at hCin
      rw [← hD] at hdl
      have hCb : 0 ≤ C ∧ C ≤ 20000000000000 := by unfold debtM at hdebt; omega
      have hOb : 0 ≤ O ∧ O ≤ 20000000000000 := by rw [hO]; unfold outM; unfold debtM at hdebt; omega
      clear hCin hOin
      have HSUM := Lib.hid (fun (bX : Nat) W (hW : Below w.heap.size w W) (hx : W.heap[bX]? = some (.cells s.cells.toArray 55 (0, 0))) => cpsum_ok _ _ _ bX W HOK.out HSR.out (HRG.out.below hW) hx)
      have HDAY : Hid (∀ W, Calls Try.prog 34 #[.agg s.cells.toArray] W fun e W' => ∃ v, e = .returned v ∧ W'.ownsRow W.heap.size 3 1 v D.length (cellsI D) ∧ Below W.heap.size W W') := Lib.hid fun W => by
        obtain ⟨z, q, hso⟩ := HSR.out
        have h := cpDays_ok hso W
        unfold DaysPost at h
        rw [hso.daysQ, ← hD] at h
        exact h
      have HPAY := Lib.hid (fun (l : List Flw) v day amt W (hU : UnI w bL (.slice (some ⟨bl, ol, none⟩) n0 c0) (.slice b0 m0 d0) (.slice e0 k0 f0) l v W) (hl : l.length ≤ 100000) (hd : 0 ≤ day ∧ day ≤ 35990) (ha : 0 ≤ amt ∧ amt ≤ 20000000000000) => cpUntilP_ok s (bL + 1) _ _ bL l v day amt W hU.bf hU.bt hU.pay (by omega) (obj_lt hU.pay.box) hl hd ha)
      rw [← hC] at HSUM
      clear hcc hsm htk hD hC hO hlr
      obtain ⟨t0, t1, t2, t3, t4, t5, t6⟩ := s
      simp only [Sec.cells] at hc HSUM HDAY HPAY HSL
      simp only at HMT HOQ
      have g00 := hc 0 (by omega)
      have g01 := hc 1 (by omega)
      have g02 := hc 2 (by omega)
      have g03 := hc 3 (by omega)
      have g04 := hc 4 (by omega)
      have g05 := hc 5 (by omega)
      have g06 := hc 6 (by omega)
      simp at g00 g01 g02 g03 g04 g05 g06
      have HU3 := Lib.hid (HU.out.below (below_alloc wr (.cells #[.int .i64 t0, .int .i64 t1, .int .i64 t2, .int .i64 t3, .int .i64 t4, .int .i64 t5, .bool t6] 55)))
      have hxb := heap_alloc_new wr (.cells #[.int .i64 t0, .int .i64 t1, .int .i64 t2, .int .i64 t3, .int .i64 t4, .int .i64 t5, .bool t6] 55)
      obtain ⟨bX, hbX⟩ : ∃ b, b = wr.heap.size := ⟨_, rfl⟩
      have HXL : Hid (bL ≠ bX) := Lib.hid (by have := obj_lt HU.out.pay.box; omega)
      obtain ⟨w3, hw3⟩ : ∃ W, W = wr.alloc (.cells #[.int .i64 t0, .int .i64 t1, .int .i64 t2, .int .i64 t3, .int .i64 t4, .int .i64 t5, .bool t6] 55) := ⟨_, rfl⟩
      rw [← hw3] at HU3 hxb
      rw [← hbX] at hxb
      have HX3 := Lib.hid hxb
      have hk0 : (0 : Int) ≤ (k : Int) := by omega
      have hk1 : (k : Int) < (n0 : Int) := by omega
      have hwk : IntKind.i64.wrap ((k : Int) + 1) = (k : Int) + 1 := IntWalk.i64_in _ (by omega)
      clear hc hxb HU
      go_upto_region 11 with fail
      rw [← hw3, ← hbX]
      clear hw3 hbX g00 g01 g02 g03 g04 g05 g06 hbl
      have hA := HU3.out.box
      have s0 := obj_cell hA 0
      have s1 := obj_cell hA 1
      have s2 := obj_cell hA 2
      simp at s0 s1 s2
      have hA2 := HX3.out
      have x0 := obj_cell hA2 0
      have x1 := obj_cell hA2 1
      have x2 := obj_cell hA2 2
      have x3 := obj_cell hA2 3
      have x4 := obj_cell hA2 4
      have x5 := obj_cell hA2 5
      have x6 := obj_cell hA2 6
      simp at x0 x1 x2 x3 x4 x5 x6
      clear hA hA2
      go_wp2_with fail
      with_reducible refine Calls.mono (HSUM.out bX _ HU3.out.old HX3.out) ?_
      rintro e w4 ⟨rfl, hb4⟩
      have HU4 := Lib.hid (HU3.out.below hb4)
      have HX4 := Lib.hid (obj_below HX3.out hb4)
      clear hb4 HU3 HX3 HSUM s0 s1 s2 x0 x1 x2 x3 x4 x5 x6
      have hA2 := HX4.out
      have x0 := obj_cell hA2 0
      have x1 := obj_cell hA2 1
      have x2 := obj_cell hA2 2
      have x3 := obj_cell hA2 3
      have x4 := obj_cell hA2 4
      have x5 := obj_cell hA2 5
      have x6 := obj_cell hA2 6
      simp at x0 x1 x2 x3 x4 x5 x6
      clear hA2
      go_wp2_with fail
      with_reducible refine Calls.mono (HDAY.out _) ?_
      rintro e w5 ⟨vd, rfl, ho5, hb5⟩
      have HU5 := Lib.hid (HU4.out.below hb5)
      have HX5 := Lib.hid (obj_below HX4.out hb5)
      have hbase : bL < w4.heap.size := obj_lt HU4.out.pay.box
      obtain ⟨bD, hbD⟩ : ∃ b, b = w4.heap.size := ⟨_, rfl⟩
      rw [← hbD] at ho5 hbase
      have HO5 := Lib.hid ho5
      obtain ⟨ad, capd, rfl, hcapd, -⟩ := owns_gen ho5
      clear hb5 ho5 HU4 HX4 HDAY x0 x1 x2 x3 x4 x5 x6 hbD
      obtain ⟨m, hm⟩ : ∃ m, m = D.length := ⟨_, rfl⟩
      have HM := Lib.hid hm
      rw [← hm] at hcapd HO5 ⊢
      clear hm
      have HLL : Hid (l.length < 20) := Lib.hid (by
        have h1 := HLN.out
        have h2 : untilL r = (r.secs.take k).flatMap (secL r) ++ (r.secs.drop k).flatMap (secL r) := by unfold untilL; rw [← List.flatMap_append, List.take_append_drop]
        rw [h2, List.length_append] at h1
        rw [HL.out]
        omega)
      go_wp2
      go_loopw [44] (fun jv wx => ∃ (j : Nat) (v : Value), jv = .int .i64 (j : Int) ∧ j ≤ m ∧ Hid (UnI w bL (.slice (some ⟨bl, ol, none⟩) n0 c0) (.slice b0 m0 d0) (.slice e0 k0 f0) (l ++ (D.take j).flatMap fun d => payM t0 d C) v wx) ∧ Hid (wx.heap[bX]? = some (.cells #[.int .i64 t0, .int .i64 t1, .int .i64 t2, .int .i64 t3, .int .i64 t4, .int .i64 t5, .bool t6] 55 (0, 0))) ∧ Hid (wx.ownsRow bD 3 1 (.slice ad m capd) m (cellsI D))) (fun jv _ => m - (RowKit.intOf jv).toNat)
      case atStart => exact ⟨0, _, rfl, by omega, Lib.hid (by simpa using HU5.out), HX5, HO5⟩
      case round =>
        clear HU5 HX5 HO5
        obtain ⟨j, v, rfl, hjm, HU, HX, HO⟩ := hrel
        by_cases hlj : j < m
        · have hjl : j < D.length := by rw [← HM.out]; exact hlj
          obtain ⟨g, cg, e1, -, -⟩ := owns_shape HO.out (by omega)
          injection e1 with e1 e2 e3
          subst e1
          have c0 := HO.out.cellAt j (by omega)
          rw [cellsI_get _ _ hjl] at c0
          have htj : D.take (j + 1) = D.take j ++ [D[j]] := List.take_succ_eq_append_getElem hjl
          have hdi := HDI.out D[j] (List.getElem_mem hjl)
          have hdd : D.getD j 0 = D[j] := by simp [List.getD, hjl]
          rw [hdd] at c0
          generalize D[j] = dy at c0 htj hdi
          have hlt2 : (l ++ (D.take j).flatMap fun d => payM t0 d C).length ≤ 100000 := by
            have h1 := days_flat t0 C (D.take j)
            have h2 := HLL.out
            rw [List.length_append]
            rw [List.length_take] at h1
            omega
          have HPD := Lib.hid (HPAY.out _ _ dy C _ HU.out hlt2 hdi (by omega))
          have HNL : Hid ((l ++ (D.take j).flatMap fun d => payM t0 d C) ++ payM t0 dy C = l ++ (D.take (j + 1)).flatMap fun d => payM t0 d C) := Lib.hid (by rw [htj, List.flatMap_append]; simp)
          have hA2 := HX.out
          have x0 := obj_cell hA2 0
          have x1 := obj_cell hA2 1
          have x2 := obj_cell hA2 2
          have x3 := obj_cell hA2 3
          have x4 := obj_cell hA2 4
          have x5 := obj_cell hA2 5
          have x6 := obj_cell hA2 6
          simp at x0 x1 x2 x3 x4 x5 x6
          have hj0 : (0 : Int) ≤ (j : Int) := by omega
          have hj1 : (j : Int) < (m : Int) := by omega
          have hwj : IntKind.i64.wrap ((j : Int) + 1) = (j : Int) + 1 := IntWalk.i64_in _ (by omega)
          clear hA2 htj hdi hdd hlt2 hjl e2 e3
          go_wp2_with fail
          refine HPD.out.mono ?_
          rintro e w7 ⟨rfl, v2, M, hp, h1, h2⟩
          rw [HNL.out] at hp
          have HU7 := Lib.hid (HU.out.paid hp h1 h2)
          have HX7 := Lib.hid (box_paid HU.out.pay HX.out (by decide) (fun e => HXL.out e.symm) h1 h2)
          have HO7 := Lib.hid (row_paid HU.out.pay HO.out hbase h1 h2)
          clear hp h1 h2 HU HX HO HPD
          go_wp2
          go_roundw
          case rel => exact ⟨j + 1, v2, by first | rfl | go_num, by omega, HU7, HX7, HO7⟩
          case measure => simp [RowKit.intOf]; omega
        · obtain rfl : j = m := by omega
          have HU8 : Hid (UnI w bL (.slice (some ⟨bl, ol, none⟩) n0 c0) (.slice b0 m0 d0) (.slice e0 k0 f0) (l ++ D.flatMap fun d => payM t0 d C) v wr) := Lib.hid (by
            have h := HU.out
            rw [HM.out, List.take_length] at h
            exact h)
          clear HU HO
          have hA := HU8.out.box
          have s0 := obj_cell hA 0
          have s1 := obj_cell hA 1
          have s2 := obj_cell hA 2
          simp at s0 s1 s2
          have hA2 := HX.out
          have x0 := obj_cell hA2 0
          have x1 := obj_cell hA2 1
          have x2 := obj_cell hA2 2
          have x3 := obj_cell hA2 3
          have x4 := obj_cell hA2 4
          have x5 := obj_cell hA2 5
          have x6 := obj_cell hA2 6
          simp at x0 x1 x2 x3 x4 x5 x6
          clear hA hA2
          clear s0 s1 s2 x0 x1 x2 x3 x4 x5 x6
          go_upto_region 17 with fail
          have HLX : Hid ((l ++ D.flatMap fun d => payM t0 d C) ++ payM t0 t3 O = (r.secs.take (k + 1)).flatMap (secL r)) := Lib.hid (by rw [HTK.out, List.flatMap_append, HL.out]; simp [HSL.out])
          obtain ⟨J, hJ⟩ : ∃ J, J = fun W : World => Below wr.heap.size wr W := ⟨_, rfl⟩
          have HJO : Hid (∀ W, J W → Below wr.heap.size wr W) := Lib.hid fun W hW => by rw [hJ] at hW; exact hW
          have HJI : Hid (∀ W, Below wr.heap.size wr W → J W) := Lib.hid fun W hW => by rw [hJ]; exact hW
          have HJD : Hid (∀ W, J W → J W.drew) := Lib.hid fun W hW => HJI.out _ ((HJO.out W hW).drew)
          have HJ0 : Hid (J wr) := Lib.hid (HJI.out _ (Below.refl _ _))
          have HUJ : Hid (∀ W, J W → UnI w bL (.slice (some ⟨bl, ol, none⟩) n0 c0) (.slice b0 m0 d0) (.slice e0 k0 f0) (l ++ D.flatMap fun d => payM t0 d C) v W) := Lib.hid fun W hW => HU8.out.below (HJO.out W hW)
          have HCR : Hid (∀ W, J W → ∀ i, W.cell? ⟨w.heap.size, i, none⟩ = #[.slice (some ⟨bl, ol, none⟩) n0 c0, .slice b0 m0 d0, .slice e0 k0 f0][i]?) := Lib.hid fun W hW i => obj_cell (HUJ.out W hW).box i
          have HCX : Hid (∀ W, J W → ∀ i, W.cell? ⟨bX, i, none⟩ = #[.int .i64 t0, .int .i64 t1, .int .i64 t2, .int .i64 t3, .int .i64 t4, .int .i64 t5, .bool t6][i]?) := Lib.hid fun W hW i => obj_cell (obj_below HX.out (HJO.out W hW)) i
          have HOU : Hid (∀ W, J W → Calls Try.prog 73 #[.agg #[.slice (some ⟨bl, ol, none⟩) n0 c0, .slice b0 m0 d0, .slice e0 k0 f0], .int .i64 t0] W fun e w' => e = .returned (.int .i64 O) ∧ J w' ∧ Below W.heap.size W w') := Lib.hid fun W hW => by
            have h := rxOutstanding_any r _ _ _ t0 W HOK.out.regS (HRG.out.below (HUJ.out W hW).old)
            have ho : outR r t0 = O := by unfold outR; rw [if_pos (checkR_ok HOK.out)]; exact HOQ.out.symm
            rw [ho] at h
            exact h.mono fun e w' ⟨h1, h2⟩ => ⟨h1, HJI.out _ ((HJO.out W hW).trans (h2.mono (HJO.out W hW).size)), h2⟩
          have hlt9 : (l ++ D.flatMap fun d => payM t0 d C).length ≤ 100000 := by
            have h1 := days_flat t0 C D
            have h2 := HLL.out
            rw [List.length_append]
            omega
          have HPY := Lib.hid (fun W (hW : J W) => HPAY.out _ _ t3 O W (HUJ.out W hW) hlt9 HMT.out hOb)
          have egO := enters_of Try.func73 (by kernel_rfl) rfl
          clear hJ hlt9
          obtain ⟨P, hP⟩ : ∃ P : Nat → Value → World → Prop, P = fun j v W => match j with | 0 => (v = .func (.func 69) #[] #[.pointer (some ⟨w.heap.size + 1, 0, none⟩), .pointer (some ⟨w.heap.size + 1 + 1, 0, none⟩), .pointer (some ⟨bL, 0, none⟩)]) | 1 => (v = .agg #[.int .i64 t0, .int .i64 t1, .int .i64 t2, .int .i64 t3, .int .i64 t4, .int .i64 t5, .bool t6]) | 2 => (v = .pointer (some ⟨bX, 3, none⟩)) | 3 => (v = .int .i64 t3) | 4 => (v = .agg #[.slice (some ⟨bl, ol, none⟩) n0 c0, .slice b0 m0 d0, .slice e0 k0 f0]) | 5 => (v = .pointer (some ⟨bX, 0, none⟩)) | 6 => (v = .int .i64 t0) | 7 => (v = .int .i64 O) | _ => True := ⟨_, rfl⟩
          have HPI0 : Hid (∀ v W, P 0 v W ↔ (v = .func (.func 69) #[] #[.pointer (some ⟨w.heap.size + 1, 0, none⟩), .pointer (some ⟨w.heap.size + 1 + 1, 0, none⟩), .pointer (some ⟨bL, 0, none⟩)])) := Lib.hid fun v W => by rw [hP] <;> exact Iff.rfl
          have HPI1 : Hid (∀ v W, P 1 v W ↔ (v = .agg #[.int .i64 t0, .int .i64 t1, .int .i64 t2, .int .i64 t3, .int .i64 t4, .int .i64 t5, .bool t6])) := Lib.hid fun v W => by rw [hP] <;> exact Iff.rfl
          have HPI2 : Hid (∀ v W, P 2 v W ↔ (v = .pointer (some ⟨bX, 3, none⟩))) := Lib.hid fun v W => by rw [hP] <;> exact Iff.rfl
          have HPI3 : Hid (∀ v W, P 3 v W ↔ (v = .int .i64 t3)) := Lib.hid fun v W => by rw [hP] <;> exact Iff.rfl
          have HPI4 : Hid (∀ v W, P 4 v W ↔ (v = .agg #[.slice (some ⟨bl, ol, none⟩) n0 c0, .slice b0 m0 d0, .slice e0 k0 f0])) := Lib.hid fun v W => by rw [hP] <;> exact Iff.rfl
          have HPI5 : Hid (∀ v W, P 5 v W ↔ (v = .pointer (some ⟨bX, 0, none⟩))) := Lib.hid fun v W => by rw [hP] <;> exact Iff.rfl
          have HPI6 : Hid (∀ v W, P 6 v W ↔ (v = .int .i64 t0)) := Lib.hid fun v W => by rw [hP] <;> exact Iff.rfl
          have HPI7 : Hid (∀ v W, P 7 v W ↔ (v = .int .i64 O)) := Lib.hid fun v W => by rw [hP] <;> exact Iff.rfl
          have HKP : Hid (∀ (j : Nat) v W W', Below W.heap.size W W' → P j v W → P j v W') := Lib.hid (by
            rw [hP]
            intro j v W W' hb h
            match j, h with
            | 0, h => exact h
            | 1, h => exact h
            | 2, h => exact h
            | 3, h => exact h
            | 4, h => exact h
            | 5, h => exact h
            | 6, h => exact h
            | 7, h => exact h
            | j + 8, _ => trivial)
          clear hP
          refine wp_region_tail [54, 55, 56, 57, 58, 59, 60, 61, 62] (slotS [54, 55, 56, 57, 58, 59, 60, 61]) (readsS [54, 55, 56, 57, 58, 59, 60, 61]) (RP [54, 55, 56, 57, 58, 59, 60, 61] P) J (fun k f W => match k with | 0 => (f 54 = .func (.func 69) #[] #[.pointer (some ⟨w.heap.size + 1, 0, none⟩), .pointer (some ⟨w.heap.size + 1 + 1, 0, none⟩), .pointer (some ⟨bL, 0, none⟩)] ∧ f 55 = .agg #[.int .i64 t0, .int .i64 t1, .int .i64 t2, .int .i64 t3, .int .i64 t4, .int .i64 t5, .bool t6] ∧ f 57 = .int .i64 t3 ∧ f 61 = .int .i64 O ∧ J W) | _ => (∃ v2, Hid (UnI w bL (.slice (some ⟨bl, ol, none⟩) n0 c0) (.slice b0 m0 d0) (.slice e0 k0 f0) ((l ++ D.flatMap fun d => payM t0 d C) ++ payM t0 t3 O) v2 W))) 8 8 (by decide) (by kernel_rfl) (by kernel_rfl) (by kernel_rfl) (by kernel_rfl) (HJD.out _ HJ0.out) (fun j f q v W hq h => RP.upd hq h) ?_ ?_ ?_ ?_
          case refine_1 =>
            intro iq hiq f W hIW hdep0
            have hdep : ∀ j, depB _ iq j = true → P j (f (slotS [54, 55, 56, 57, 58, 59, 60, 61] j)) W := hdep0
            clear hdep0
            generalize ha1 : putsL _ [54, 55, 56, 57, 58, 59, 60, 61, 62] f = a1
            match iq, hiq, hdep with
            | 0, _, hdep0 =>
              have E10 : a1.tmps[10]?.getD undef = .func (.func 69) #[] #[.pointer (some ⟨w.heap.size + 1, 0, none⟩), .pointer (some ⟨w.heap.size + 1 + 1, 0, none⟩), .pointer (some ⟨bL, 0, none⟩)] := by rw [← ha1]; exact (putsL_out2 _ _ _ _ (by decide)).trans rfl
              exact wpOp_val rfl rfl (v := .func (.func 69) #[] #[.pointer (some ⟨w.heap.size + 1, 0, none⟩), .pointer (some ⟨w.heap.size + 1 + 1, 0, none⟩), .pointer (some ⟨bL, 0, none⟩)]) (w' := W) (by simp [execOp, go_sem, E10]) ⟨hIW, fun _ h => h, _, by decide, rfl, RP.set ((HPI0.out _ _).2 rfl)⟩
            | 1, _, hdep0 =>
              have E12 : a1.tmps[12]?.getD undef = .pointer (some ⟨bX, 0, none⟩) := by rw [← ha1]; exact (putsL_out2 _ _ _ _ (by decide)).trans rfl
              have v0 : W.cell? ⟨bX, 0, none⟩ = some (.int .i64 t0) := by simpa using HCX.out W hIW 0
              have v1 : W.cell? ⟨bX, 1, none⟩ = some (.int .i64 t1) := by simpa using HCX.out W hIW 1
              have v2 : W.cell? ⟨bX, 2, none⟩ = some (.int .i64 t2) := by simpa using HCX.out W hIW 2
              have v3 : W.cell? ⟨bX, 3, none⟩ = some (.int .i64 t3) := by simpa using HCX.out W hIW 3
              have v4 : W.cell? ⟨bX, 4, none⟩ = some (.int .i64 t4) := by simpa using HCX.out W hIW 4
              have v5 : W.cell? ⟨bX, 5, none⟩ = some (.int .i64 t5) := by simpa using HCX.out W hIW 5
              have v6 : W.cell? ⟨bX, 6, none⟩ = some (.bool t6) := by simpa using HCX.out W hIW 6
              exact wpOp_val rfl rfl (v := .agg #[.int .i64 t0, .int .i64 t1, .int .i64 t2, .int .i64 t3, .int .i64 t4, .int .i64 t5, .bool t6]) (w' := W) (by simp [execOp, go_sem, E12, v0, v1, v2, v3, v4, v5, v6]) ⟨hIW, fun _ h => h, _, by decide, rfl, RP.set ((HPI1.out _ _).2 rfl)⟩
            | 2, _, hdep0 =>
              have E12 : a1.tmps[12]?.getD undef = .pointer (some ⟨bX, 0, none⟩) := by rw [← ha1]; exact (putsL_out2 _ _ _ _ (by decide)).trans rfl
              exact wpOp_val rfl rfl (v := .pointer (some ⟨bX, 3, none⟩)) (w' := W) (by simp [execOp, go_sem, E12]) ⟨hIW, fun _ h => h, _, by decide, rfl, RP.set ((HPI2.out _ _).2 rfl)⟩
            | 3, _, hdep0 =>
              have hd2 := (HPI2.out _ _).1 (hdep0 2 (by kernel_rfl))
              have E56 : a1.tmps[56]?.getD undef = .pointer (some ⟨bX, 3, none⟩) := by rw [← ha1]; exact (putsL_in2 _ _ _ _ (by decide) (show 56 < 70 from by decide)).trans hd2
              have v3 : W.cell? ⟨bX, 3, none⟩ = some (.int .i64 t3) := by simpa using HCX.out W hIW 3
              exact wpOp_val rfl rfl (v := .int .i64 t3) (w' := W) (by simp [execOp, go_sem, E56, v3]) ⟨hIW, fun _ h => h, _, by decide, rfl, RP.set ((HPI3.out _ _).2 rfl)⟩
            | 4, _, hdep0 =>
              have E3 : a1.tmps[3]?.getD undef = .pointer (some ⟨w.heap.size, 0, none⟩) := by rw [← ha1]; exact (putsL_out2 _ _ _ _ (by decide)).trans rfl
              have v0 : W.cell? ⟨w.heap.size, 0, none⟩ = some (.slice (some ⟨bl, ol, none⟩) n0 c0) := by simpa using HCR.out W hIW 0
              have v1 : W.cell? ⟨w.heap.size, 1, none⟩ = some (.slice b0 m0 d0) := by simpa using HCR.out W hIW 1
              have v2 : W.cell? ⟨w.heap.size, 2, none⟩ = some (.slice e0 k0 f0) := by simpa using HCR.out W hIW 2
              exact wpOp_val rfl rfl (v := .agg #[.slice (some ⟨bl, ol, none⟩) n0 c0, .slice b0 m0 d0, .slice e0 k0 f0]) (w' := W) (by simp [execOp, go_sem, E3, v0, v1, v2]) ⟨hIW, fun _ h => h, _, by decide, rfl, RP.set ((HPI4.out _ _).2 rfl)⟩
            | 5, _, hdep0 =>
              have E12 : a1.tmps[12]?.getD undef = .pointer (some ⟨bX, 0, none⟩) := by rw [← ha1]; exact (putsL_out2 _ _ _ _ (by decide)).trans rfl
              exact wpOp_val rfl rfl (v := .pointer (some ⟨bX, 0, none⟩)) (w' := W) (by simp [execOp, go_sem, E12]) ⟨hIW, fun _ h => h, _, by decide, rfl, RP.set ((HPI5.out _ _).2 rfl)⟩
            | 6, _, hdep0 =>
              have hd5 := (HPI5.out _ _).1 (hdep0 5 (by kernel_rfl))
              have E59 : a1.tmps[59]?.getD undef = .pointer (some ⟨bX, 0, none⟩) := by rw [← ha1]; exact (putsL_in2 _ _ _ _ (by decide) (show 59 < 70 from by decide)).trans hd5
              have v0 : W.cell? ⟨bX, 0, none⟩ = some (.int .i64 t0) := by simpa using HCX.out W hIW 0
              exact wpOp_val rfl rfl (v := .int .i64 t0) (w' := W) (by simp [execOp, go_sem, E59, v0]) ⟨hIW, fun _ h => h, _, by decide, rfl, RP.set ((HPI6.out _ _).2 rfl)⟩
            | 7, _, hdep0 =>
              have hd4 := (HPI4.out _ _).1 (hdep0 4 (by kernel_rfl))
              have hd6 := (HPI6.out _ _).1 (hdep0 6 (by kernel_rfl))
              have E58 : a1.tmps[58]?.getD undef = .agg #[.slice (some ⟨bl, ol, none⟩) n0 c0, .slice b0 m0 d0, .slice e0 k0 f0] := by rw [← ha1]; exact (putsL_in2 _ _ _ _ (by decide) (show 58 < 70 from by decide)).trans hd4
              have E60 : a1.tmps[60]?.getD undef = .int .i64 t0 := by rw [← ha1]; exact (putsL_in2 _ _ _ _ (by decide) (show 60 < 70 from by decide)).trans hd6
              refine wpOp_call rfl rfl (n := 73) (vs := #[.agg #[.slice (some ⟨bl, ol, none⟩) n0 c0, .slice b0 m0 d0, .slice e0 k0 f0], .int .i64 t0]) (by have := egO #[.agg #[.slice (some ⟨bl, ol, none⟩) n0 c0, .slice b0 m0 d0, .slice e0 k0 f0], .int .i64 t0] W; simp [execOp, E58, E60, resolve, invoke, go_sem] <;> exact this) ((HOU.out W hIW).mono fun e w' hh => (by obtain ⟨rfl, hJ', hb'⟩ := hh; exact ⟨_, rfl, (HPI7.out _ _).2 rfl, hJ', hb'⟩ : ∃ v, e = .returned v ∧ (P 7 v w' ∧ J w' ∧ Below W.heap.size W w'))) ?_
              rintro v w' ⟨hv, hI', hb'⟩
              exact ⟨hI', fun j h => HKP.out j _ _ _ hb' h, _, by decide, rfl, RP.set hv⟩
            | iq + 8, h, _ => exact absurd h (by omega)
          case refine_2 =>
            intro f W hIW hR
            have h54 := (HPI0.out _ _).1 (hR 0 (by decide))
            have h55 := (HPI1.out _ _).1 (hR 1 (by decide))
            have h57 := (HPI3.out _ _).1 (hR 3 (by decide))
            have h61 := (HPI7.out _ _).1 (hR 7 (by decide))
            exact ⟨h54, h55, h57, h61, hIW⟩
          case refine_3 =>
            intro iq hsq hiq f W hIt0
            have hiq2 : iq < 9 := hiq
            have hIt := hIt0
            clear hIt0
            rcases (show iq = 8 by omega) with rfl
            · clear hsq hiq hiq2
              obtain ⟨h54, h55, h57, h61, hIW⟩ := hIt
              generalize ha1 : putsL _ [54, 55, 56, 57, 58, 59, 60, 61, 62] f = a1
              have E54 : a1.tmps[54]?.getD undef = .func (.func 69) #[] #[.pointer (some ⟨w.heap.size + 1, 0, none⟩), .pointer (some ⟨w.heap.size + 1 + 1, 0, none⟩), .pointer (some ⟨bL, 0, none⟩)] := by rw [← ha1]; exact (putsL_in2 _ _ _ _ (by decide) (show 54 < 70 from by decide)).trans h54
              have E55 : a1.tmps[55]?.getD undef = .agg #[.int .i64 t0, .int .i64 t1, .int .i64 t2, .int .i64 t3, .int .i64 t4, .int .i64 t5, .bool t6] := by rw [← ha1]; exact (putsL_in2 _ _ _ _ (by decide) (show 55 < 70 from by decide)).trans h55
              have E57 : a1.tmps[57]?.getD undef = .int .i64 t3 := by rw [← ha1]; exact (putsL_in2 _ _ _ _ (by decide) (show 57 < 70 from by decide)).trans h57
              have E61 : a1.tmps[61]?.getD undef = .int .i64 O := by rw [← ha1]; exact (putsL_in2 _ _ _ _ (by decide) (show 61 < 70 from by decide)).trans h61
              refine wpOp_call rfl rfl (n := 69) (vs := #[.agg #[.int .i64 t0, .int .i64 t1, .int .i64 t2, .int .i64 t3, .int .i64 t4, .int .i64 t5, .bool t6], .int .i64 t3, .int .i64 O, .pointer (some ⟨w.heap.size + 1, 0, none⟩), .pointer (some ⟨w.heap.size + 1 + 1, 0, none⟩), .pointer (some ⟨bL, 0, none⟩)]) (by have := eg #[.agg #[.int .i64 t0, .int .i64 t1, .int .i64 t2, .int .i64 t3, .int .i64 t4, .int .i64 t5, .bool t6], .int .i64 t3, .int .i64 O, .pointer (some ⟨w.heap.size + 1, 0, none⟩), .pointer (some ⟨w.heap.size + 1 + 1, 0, none⟩), .pointer (some ⟨bL, 0, none⟩)] W; simp [execOp, E54, E55, E57, E61, resolve, invoke, go_sem] <;> exact this) (R := fun v w' => v = .tuple #[] ∧ ∃ v2, Hid (UnI w bL (.slice (some ⟨bl, ol, none⟩) n0 c0) (.slice b0 m0 d0) (.slice e0 k0 f0) ((l ++ D.flatMap fun d => payM t0 d C) ++ payM t0 t3 O) v2 w')) ((HPY.out W hIW).mono fun e w' hh => (by obtain ⟨rfl, v2, M, hp, h1, h2⟩ := hh; exact ⟨_, rfl, rfl, v2, Lib.hid ((HUJ.out W hIW).paid hp h1 h2)⟩)) ?_
              rintro v w' ⟨rfl, hq⟩
              exact ⟨updF f 62 (.tuple #[]), by rw [← ha1]; exact putsL_put _ _ _ _ _ (by decide), hq⟩
          case refine_4 =>
            intro f W hIt
            simp only [putsL, List.foldl_cons, List.foldl_nil, Act.put, List.setIfInBounds_toArray, List.set_cons_zero, List.set_cons_succ]
            obtain ⟨v2, HUN⟩ := hIt
            go_wp2
            go_roundw
            case rel => exact ⟨k + 1, _, v2, by first | rfl | go_num, by omega, HLX, HUN⟩
            case measure => simp [RowKit.intOf]; omega

    · obtain rfl : k = n0 := by omega
      have HLF : Hid (l = untilL r) := Lib.hid (by rw [HL.out, HLE.out, List.take_length]; rfl)
      have HLN2 : Hid (l.length < 20) := Lib.hid (by rw [HLF.out]; exact HLN.out)
      have hA := HU.out.pay.box
      have u0 := obj_cell hA 0
      simp at u0
      have hown := HU.out.pay.own
      obtain ⟨ax, cx, rfl, hcx, -⟩ := owns_gen hown
      have hl20 := HLN2.out
      have HSO := Lib.hid (SortFlow_any l HLN2.out _ (bL + 1) wr hown (obj_lt hA))
      unfold SrtPost at HSO
      obtain ⟨n, hn⟩ : ∃ n, n = l.length := ⟨_, rfl⟩
      have HNN := Lib.hid hn
      rw [← hn] at hl20 HSO hcx
      have hn400 : ¬ (400 < (n : Int)) := by omega
      have u1 : wr.cell? ⟨bL, 0, none⟩ = some (.slice ax n cx) := by rw [hn]; exact u0
      clear hA hown hn u0
      go_wp2_with fail
      refine HSO.out.mono ?_
      rintro e w9 ⟨rfl, l', h1, h2, h3, h4⟩
      have HPERM := Lib.hid h1
      have hp9 : w9.heap[bL]? = some (.cells #[.slice ax n cx] 66 (0, 0)) := by
        have hq := HU.out.pay.box
        rw [← HNN.out] at hq
        exact (h4.block bL (by omega)).trans hq
      have u9 := obj_cell hp9 0
      simp at u9
      have hlo := HU.out.lo
      have HFIN : Hid (w9.ownsRow w.heap.size 70 4 (.slice ax n cx) l'.length (cellsL flowC l') ∧ Below w.heap.size w w9) := Lib.hid (by
        have hl' : l'.length = n := by rw [h1.length_eq, HNN.out]
        refine ⟨?_, HU.out.old.trans (h4.mono (by omega))⟩
        rw [hl', HNN.out]
        rw [HNN.out] at h3
        exact ownsRow_mono h3 (by omega))
      clear h1 h2 h3 h4 hp9 hlo u1 HSO
      go_wp2
      go_ret2
      exact ⟨_, l', rfl, by rw [← HLF.out]; exact HPERM.out, HFIN.out.1, HFIN.out.2⟩

end Go.Proofs.Ytblidmkkbcobgaa
