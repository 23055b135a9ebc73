/- The source of reopening's laws: a market of two securities, for every tape. -/
import Derived.Test.YtnfllgeneehjjaaMRoW
import Derived.Test.YtnfllgeneehjjaaMRzR
set_option linter.unusedSimpArgs false
set_option linter.unusedVariables false
set_option linter.unusedSimpArgs false
set_option linter.unusedVariables false
namespace Go.Proofs.Ytnfllgeneehjjaa
open Go.RowKit Go.Lib Go.Proofs

/-- A security of a market. -/
structure MkS (s : Sec) (n : Int) : Prop where
  right : SecR s
  id : s.id = n
  u : s.unit = 1 ∨ s.unit = 10 ∨ s.unit = 100
  i : s.iss = 0
  m : s.mat = 1800
/-- A market's register ahead of its first issue. -/
structure MktL (r : Reg) : Prop where
  ok : RegOk r
  hs : r.hs = []
  ms : r.ms = []
  secs : ∀ (k : Nat) (h : k < r.secs.length), MkS (r.secs[k]) ((k : Int) + 1)
theorem MktL.start : MktL Reg.none := ⟨ok_none, rfl, rfl, fun k hk => by simp [Reg.none] at hk⟩
theorem MktL.snoc {r : Reg} (h : MktL r) (hl : r.secs.length < 20) {s : Sec} (hs : MkS s ((r.secs.length : Int) + 1)) : MktL ⟨r.secs ++ [s], r.hs, r.ms⟩ := by
  refine ⟨⟨⟨fun t ht => ?_, ?_, by simp; omega⟩, h.ok.len, ?_⟩, h.hs, h.ms, fun k hk => ?_⟩
  · simp only [List.mem_append, List.mem_singleton] at ht
    rcases ht with ht | rfl
    · exact h.ok.secs.ok t ht
    · exact hs.right
  · refine List.pairwise_append.2 ⟨h.ok.secs.asc, List.pairwise_singleton _ _, fun a ha b hb => ?_⟩
    rw [List.mem_singleton] at hb
    subst hb
    obtain ⟨k, hk, rfl⟩ := List.getElem_of_mem ha
    rw [(h.secs k hk).id, hs.id]; omega
  · have h1 := h.ok.run
    rw [h.ms] at h1 ⊢
    exact h1
  · simp only [List.length_append, List.length_singleton] at hk
    by_cases hk2 : k < r.secs.length
    · simp only [List.getElem_append_left hk2]; exact h.secs k hk2
    · obtain rfl : k = r.secs.length := by omega
      simpa using hs
theorem MktL.whole {r : Reg} (h : MktL r) (hl : r.secs.length = 2) : ∃ sA sB, MktOk r sA sB := by
  obtain ⟨secs, hs, ms⟩ := r
  have h1 := h.hs
  have h2 := h.ms
  simp only at h1 h2 hl
  subst h1 h2
  match secs, hl with
  | [sA, sB], _ =>
    have a := h.secs 0 (by simp)
    have b := h.secs 1 (by simp)
    simp only [List.getElem_cons_zero, List.getElem_cons_succ] at a b
    exact ⟨sA, sB, ⟨h.ok, rfl, by have := a.id; omega, by have := b.id; omega, a.u, b.u, a.i, b.i, a.m, b.m, by simp, rfl, fun i => by simp [outM, sumH]⟩⟩

theorem issue_e {r : Reg} {sA sB s : Sec} (k : MktOk r sA sB) (hl : r.ms.length < 3) {id who n : Int} (hf : findS id r.secs = some s) (hu : s.unit = 1 ∨ s.unit = 10 ∨ s.unit = 100) (hi : s.iss = 0) (hm : s.mat = 1800) (h0 : 1 ≤ who ∧ who ≤ 4) (hn : 1 ≤ n ∧ n ≤ 9) : addE r ⟨0, 0, 1, id, 0, who, 1000 * n⟩ = 0 := by
  rw [addE_ok k.ok, if_neg (by omega)]
  unfold faultM numM
  simp only
  rw [hf]
  simp only
  unfold faultS
  simp only
  have ht : (1000 * n).tmod s.unit = 0 := by rw [Int.tmod_eq_emod_of_nonneg (by omega)]; rcases hu with h | h | h <;> rw [h] <;> omega
  have he : endsB ⟨(r.ms.length : Int) + 1, 0, 1, id, 0, who, 1000 * n⟩ = true := by unfold endsB; simp; omega
  have hd := k.day
  have ho := k.out id
  rw [he, hd]
  refine (if_neg ?_).trans ?_
  · simp; omega
  refine (if_neg ?_).trans ?_
  · rw [ht]; omega
  refine (if_neg (by simp)).trans ?_
  refine (if_neg (fun q => q.1 rfl)).trans ?_
  exact if_neg (fun q => by have := q.2; omega)
theorem MktOk.issue_ok {r : Reg} {sA sB : Sec} (k : MktOk r sA sB) (hl : r.ms.length < 3) {id who n : Int} (hid : 1 ≤ id ∧ id ≤ 2) (h0 : 1 ≤ who ∧ who ≤ 4) (hn : 1 ≤ n ∧ n ≤ 9) : addE r ⟨0, 0, 1, id, 0, who, 1000 * n⟩ = 0 := by
  rcases (show id = 1 ∨ id = 2 by omega) with rfl | rfl
  · exact issue_e k hl k.f1 k.u1 k.i1 k.m1 h0 hn
  · exact issue_e k hl k.f2 k.u2 k.i2 k.m2 h0 hn

/-- The register with one issue more. -/
def MarkR (r : Reg) (sA sB : Sec) (x y z : Value) (W : World) : Prop := ∃ r' : Reg, MktOk r' sA sB ∧ r'.ms.length = r.ms.length + 1 ∧ RegAt W x y z r'
theorem MarkR.below {r : Reg} {sA sB : Sec} {x y z : Value} {A B : World} (h : MarkR r sA sB x y z A) (hb : Below A.heap.size A B) : MarkR r sA sB x y z B := by obtain ⟨q, h1, h3, h2⟩ := h; exact ⟨q, h1, h3, h2.below hb⟩
theorem MarkR.turn {r : Reg} {sA sB : Sec} {x y z : Value} {A B : World} {tb : Nat} (h : MarkR r sA sB x y z A) (hs : SrcAt A tb) (hg : A.grownBy B (some tb)) : MarkR r sA sB x y z B := by obtain ⟨q, h1, h3, h2⟩ := h; exact ⟨q, h1, h3, h2.turn hs hg⟩
theorem MarkR.keep {r : Reg} {sA sB : Sec} {x y z : Value} {A B : World} {b0 : Nat} (h : MarkR r sA sB x y z A) (hl : Lone A b0) (hg : A.grownBy B (some b0)) : MarkR r sA sB x y z B := by obtain ⟨q, h1, h3, h2⟩ := h; exact ⟨q, h1, h3, h2.keepL hl hg⟩
theorem mkt_post {w w' : World} {tb : Nat} {x y z : Value} {r : Reg} {s1 s2 : Sec} (h0 : MktOk r s1 s2) (h1 : RegAt w' x y z r) (h2 : SI w tb w') : MktPost w tb (.returned (.agg #[x, y, z])) w' := ⟨x, y, z, r, s1, s2, rfl, h0, h1, h2⟩
theorem mks_of {t0 t1 t2 t3 t4 t5 u id z q : Int} {t6 : Bool} (h : SecOk ⟨t0, t1, t2, t3, t4, t5, t6⟩ z q) (hid : t0 = id) (hr : t4 ≤ 5000) (hu : u = 1 ∨ u = 10 ∨ u = 100) : MkS ⟨t0, u, 0, 1800, t4, 6, t6⟩ id :=
  ⟨⟨6, 10, ⟨h.id0, h.id1, by show 1 ≤ u; omega, by show u ≤ _; omega, by show (0 : Int) ≤ 0; omega, by show (0 : Int) ≤ 36000; omega, by show (1800 : Int) ≤ 35990; omega, by omega, by show (1800 : Int) = 0 + 30 * (6 * 10); omega, by omega, h.rate0, by show t4 ≤ 20000; omega, Or.inr (Or.inr (Or.inr (Or.inl ⟨rfl, rfl⟩)))⟩⟩, hid, hu, rfl, rfl⟩

set_option maxRecDepth 100000 in
set_option maxHeartbeats 16000000 in
theorem market_any (tb : Nat) (w : World) (hs : SrcAt w tb) :
    Calls Try.prog 50 #[.pointer (some ⟨tb, 0, none⟩)] w (MktPost w tb) := by
  have hlt := hs.lt
  have HS0 := Lib.hid ((si_start hs).alloc (.cells #[.slice none 0 0, .slice none 0 0, .slice none 0 0] 29))
  obtain ⟨w0, hw0⟩ : ∃ w0, w0 = w.alloc (.cells #[.slice none 0 0, .slice none 0 0, .slice none 0 0] 29) := ⟨_, rfl⟩
  have HR0 : Hid (w0.heap[w.heap.size]? = some (.cells #[.slice none 0 0, .slice none 0 0, .slice none 0 0] 29 (0, 0))) := Lib.hid (by rw [hw0]; exact heap_alloc_new w _)
  have HSZ : Hid (w0.heap.size = w.heap.size + 1) := Lib.hid (by rw [hw0]; simp)
  rw [← hw0] at HS0
  have HEND : Hid (∀ W, SI w0 tb W → SI w tb W) := Lib.hid fun W hW => ⟨hW.src, grown_step HS0.out.old hW.old, hlt⟩
  obtain ⟨bL, hbL⟩ : ∃ bL, bL = w.heap.size + 1 := ⟨_, rfl⟩
  obtain ⟨w1, hw1⟩ : ∃ w1, w1 = w0.alloc (.cells #[.slice none 0 0, .slice none 0 0, .slice none 0 0] 29) := ⟨_, rfl⟩
  have HI1 : Hid (RgI w0 tb bL (.slice none 0 0) (.slice none 0 0) (.slice none 0 0) Reg.none w1) := Lib.hid (by
    refine ⟨?_, ?_, none_at _, by omega, by rw [HSZ.out, hbL]; exact Nat.le_refl _⟩
    · rw [hw1]; exact (si_start HS0.out.src).alloc _
    · rw [hw1, hbL, ← HSZ.out]; exact heap_alloc_new w0 _)
  have hrne : w.heap.size ≠ tb := by omega
  have hwE : (w.alloc (.cells #[.slice none 0 0, .slice none 0 0, .slice none 0 0] 29)).alloc (.cells #[.slice none 0 0, .slice none 0 0, .slice none 0 0] 29) = w1 := by rw [hw1, hw0]
  have HNE : Hid (∀ W, SI w0 tb W → W.heap[w.heap.size]? = some (.cells #[.slice none 0 0, .slice none 0 0, .slice none 0 0] 29 (0, 0))) := Lib.hid fun W hW => (hW.old.block _ (obj_lt HR0.out) (by simp [hrne])).trans HR0.out
  clear hs hw0 hw1
  go_enter Try.func50, Try.ntmps50
  go_upto_region 2 with fail
  rw [← hbL]
  clear hwE hbL
  go_wp2
  go_loopw [4] (fun iv wr => ∃ (r : Reg) (id : Int) (ra : Option Addr) (n0 c0 : Nat) (rb : Option Addr) (n1 c1 : Nat) (rc : Option Addr) (n2 c2 : Nat), iv = .int .i64 id ∧ 1 ≤ id ∧ id ≤ 3 ∧ Hid (id = (r.secs.length : Int) + 1) ∧ Hid (MktL r) ∧ Hid (RgI w0 tb bL (.slice ra n0 c0) (.slice rb n1 c1) (.slice rc n2 c2) r wr)) (fun iv _ => 4 - (RowKit.intOf iv).toNat)
  case atStart => exact ⟨Reg.none, 1, none, 0, 0, none, 0, 0, none, 0, 0, rfl, by omega, by omega, Lib.hid rfl, Lib.hid MktL.start, HI1⟩
  case round =>
    clear HI1
    obtain ⟨r, id, ra, n0, c0, rb, n1, c1, rc, n2, c2, rfl, hid0, hid1, HIDN, HG, HI⟩ := hrel
    by_cases hle : id ≤ 2
    · go_wp2_with fail
      with_reducible refine Calls.mono (sSecurity_any tb id _ HI.out.si.src (by omega) (by omega)) ?_
      rintro e w7 ⟨⟨t0, t1, t2, t3, t4, t5, t6⟩, z, q, rfl, hok, hq1, hq2, hq3, hq4, hi7, hg7⟩
      simp only at hq1 hq3 hq4
      have HI7 := Lib.hid (HI.out.turn hi7 hg7)
      have HOK := Lib.hid hok
      have HQ1 := Lib.hid hq1
      clear hi7 hg7 HI hok hq1 hq2 hq3
      simp only [Sec.cells]
      obtain ⟨bZ, hbZ⟩ : ∃ b, b = w7.heap.size := ⟨_, rfl⟩
      obtain ⟨w8, hw8⟩ : ∃ W, W = w7.alloc (.cells #[.int .i64 t0, .int .i64 t1, .int .i64 t2, .int .i64 t3, .int .i64 t4, .int .i64 t5, .bool t6] 34) := ⟨_, rfl⟩
      have HS8 : Hid (SI w7 tb w8) := Lib.hid (by rw [hw8]; exact (si_start HI7.out.si.src).alloc _)
      have HZ8 : Hid (w8.heap[bZ]? = some (.cells #[.int .i64 t0, .int .i64 t1, .int .i64 t2, .int .i64 t3, .int .i64 t4, .int .i64 t5, .bool t6] 34 (0, 0))) := Lib.hid (by rw [hw8, hbZ]; exact heap_alloc_new _ _)
      have HZT : Hid (bZ ≠ tb) := Lib.hid (by have := HI7.out.si.src.lt; omega)
      have HZG : Hid (w7.heap.size ≤ bZ) := Lib.hid (by omega)
      have hZL : ¬ bZ = bL := by have := obj_lt HI7.out.box; omega
      go_upto_region 6 with fail
      rw [← hw8, ← hbZ]
      clear hw8 hbZ
      go_wp2_with fail
      with_reducible refine Calls.mono (pick_in _ [1, 10, 100] _ _ rfl HS8.out (by simp) (by simp) _ rfl _ (by simp)) ?_
      rintro e w9 ⟨u, rfl, hu, hi9, hg9⟩
      have hA := obj_turn (obj_below HZ8.out (below_alloc _ _)) hg9 HZT.out
      have s0 := obj_cell hA 0
      have s1 := obj_cell hA 1
      have s2 := obj_cell hA 2
      have s3 := obj_cell hA 3
      have s4 := obj_cell hA 4
      have s5 := obj_cell hA 5
      have s6 := obj_cell hA 6
      have sf0 := obj_free hA 0
      have sf1 := obj_free hA 1
      have sf2 := obj_free hA 2
      have sf3 := obj_free hA 3
      have sf4 := obj_free hA 4
      have sf5 := obj_free hA 5
      have sf6 := obj_free hA 6
      simp at s0 s1 s2 s3 s4 s5 s6
      obtain ⟨w10, hw10⟩ : ∃ W, W = (((w9.setCell ⟨bZ, 2, none⟩ (.int .i64 0)).setCell ⟨bZ, 1, none⟩ (.int .i64 u)).setCell ⟨bZ, 5, none⟩ (.int .i64 6)).setCell ⟨bZ, 3, none⟩ (.int .i64 1800) := ⟨_, rfl⟩
      have HI10 : Hid (RgI w0 tb bL (.slice ra n0 c0) (.slice rb n1 c1) (.slice rc n2 c2) r w10) := Lib.hid (by
        have hb := HZG.out
        have hS := (((hi9.set hb 2 (.int .i64 0)).set hb 1 (.int .i64 u)).set hb 5 (.int .i64 6)).set hb 3 (.int .i64 1800)
        rw [hw10]
        exact HI7.out.turn hS.src hS.old)
      have HZ10 : Hid (w10.heap[bZ]? = some (.cells #[.int .i64 t0, .int .i64 u, .int .i64 0, .int .i64 1800, .int .i64 t4, .int .i64 6, .bool t6] 34 (0, 0))) := Lib.hid (by
        rw [hw10]
        have := obj_set (obj_set (obj_set (obj_set hA 2 (.int .i64 0)) 1 (.int .i64 u)) 5 (.int .i64 6)) 3 (.int .i64 1800)
        simp only [List.setIfInBounds_toArray, List.set_cons_zero, List.set_cons_succ] at this
        exact this)
      have HU : Hid (u = 1 ∨ u = 10 ∨ u = 100) := Lib.hid (by simpa using hu)
      clear hi9 hg9 HS8 HZ8 HI7 hA hu
      go_upto_region 7 with fail
      rw [← hw10]
      clear hw10 s0 s1 s2 s3 s4 s5 s6 sf0 sf1 sf2 sf3 sf4 sf5 sf6
      have hz := HZ10.out
      have y0 := obj_cell hz 0
      have y1 := obj_cell hz 1
      have y2 := obj_cell hz 2
      have y3 := obj_cell hz 3
      have y4 := obj_cell hz 4
      have y5 := obj_cell hz 5
      have y6 := obj_cell hz 6
      simp at y0 y1 y2 y3 y4 y5 y6
      have hA := HI10.out.box
      have s0 := obj_cell hA 0
      have s1 := obj_cell hA 1
      have s2 := obj_cell hA 2
      simp at s0 s1 s2
      have HMK : Hid (MkS ⟨t0, u, 0, 1800, t4, 6, t6⟩ ((r.secs.length : Int) + 1)) := Lib.hid (mks_of HOK.out (by have := HQ1.out; have := HIDN.out; omega) hq4 HU.out)
      have HADD := Lib.hid (ryAdd_ok r ⟨t0, u, 0, 1800, t4, 6, t6⟩ _ _ _ w10 HG.out.ok HMK.out.right (fun t ht => by
        obtain ⟨k, hk, rfl⟩ := List.getElem_of_mem ht
        rw [(HG.out.secs k hk).id, HMK.out.id]; omega) (by have := HIDN.out; omega) HI10.out.reg)
      simp only [Sec.cells] at HADD
      clear hz hA HU
      go_wp2_with fail
      with_reducible refine Calls.mono HADD.out ?_
      rintro e w11 ⟨x', y', z', rfl, hrr, hb11⟩
      obtain ⟨xX, nX, cX, yX, mX, dX, zX, kX, eX, rfl, rfl, rfl⟩ := hrr.slices
      have HI11 := Lib.hid (HI10.out.below hb11)
      have HRR := Lib.hid hrr
      have HIDN2 : Hid (id + 1 = (((r.secs ++ [(⟨t0, u, 0, 1800, t4, 6, t6⟩ : Sec)]).length : Nat) : Int) + 1) := Lib.hid (by have := HIDN.out; simp; omega)
      have HG2 := Lib.hid (HG.out.snoc (by have := HIDN.out; omega) HMK.out)
      clear hrr hb11 s0 s1 s2 y0 y1 y2 y3 y4 y5 y6 HADD HI10 HZ10
      have hA := HI11.out.box
      have s0 := obj_cell hA 0
      have s1 := obj_cell hA 1
      have s2 := obj_cell hA 2
      have sf0 := obj_free hA 0
      have sf1 := obj_free hA 1
      have sf2 := obj_free hA 2
      simp at s0 s1 s2
      have HD10 : Hid (RgI w0 tb bL (.slice xX nX cX) (.slice yX mX dX) (.slice zX kX eX) ⟨r.secs ++ [(⟨t0, u, 0, 1800, t4, 6, t6⟩ : Sec)], r.hs, r.ms⟩ (put3 w11 bL (.slice xX nX cX) (.slice yX mX dX) (.slice zX kX eX))) := Lib.hid (by
        have hg := put3_grown w11 bL (.slice xX nX cX) (.slice yX mX dX) (.slice zX kX eX)
        exact ⟨HI11.out.si.grown hg (fun q e => by injection e with e; have := HI11.out.out; omega), put3_at hA rfl _ _ _, HRR.out.keepL (lone_reg hA) hg, HI11.out.ne, HI11.out.out⟩)
      have hwk : IntKind.i64.wrap (id + 1) = id + 1 := IntWalk.i64_in _ (by omega)
      obtain ⟨w12, hw12⟩ : ∃ W, W = put3 w11 bL (.slice xX nX cX) (.slice yX mX dX) (.slice zX kX eX) := ⟨_, rfl⟩
      rw [← hw12] at HD10
      unfold put3 at hw12
      clear hA
      go_upto_region 4 with fail
      rw [← hw12]
      clear hw12
      go_wp2
      go_roundw
      case rel => exact ⟨⟨r.secs ++ [(⟨t0, u, 0, 1800, t4, 6, t6⟩ : Sec)], r.hs, r.ms⟩, id + 1, _, _, _, _, _, _, _, _, _, by first | rfl | go_num, by omega, by omega, HIDN2, HG2, HD10⟩
      case measure => simp [RowKit.intOf]; omega
    · obtain ⟨sA, sB, hmk⟩ := HG.out.whole (by have := HIDN.out; omega)
      have hms := HG.out.ms
      have HML0 : Hid ((r.ms.length : Int) = 0) := Lib.hid (by rw [hms]; rfl)
      have HM := Lib.hid hmk
      clear HG HIDN hmk hms
      go_wp2_with fail
      with_reducible refine Calls.mono (n_in HI.out.si 4 (by omega) (by omega)) ?_
      rintro e w7 ⟨k0, rfl, k00, k01, hi7, hg7⟩
      have HD7 := Lib.hid (HI.out.turn hi7.src hg7)
      have HML : Hid ((r.ms.length : Int) + k0 ≤ 3) := Lib.hid (by rw [HML0.out]; omega)
      clear hi7 hg7 HI HML0
      go_wp2
      go_loopw [6] (fun kv wr => ∃ (r : Reg) (k : Int) (ra : Option Addr) (n0 c0 : Nat) (rb : Option Addr) (n1 c1 : Nat) (rc : Option Addr) (n2 c2 : Nat), kv = .int .i64 k ∧ 0 ≤ k ∧ k ≤ 3 ∧ Hid ((r.ms.length : Int) + k ≤ 3) ∧ Hid (MktOk r sA sB) ∧ Hid (RgI w0 tb bL (.slice ra n0 c0) (.slice rb n1 c1) (.slice rc n2 c2) r wr)) (fun kv _ => (RowKit.intOf kv).toNat)
      case atStart => exact ⟨r, k0, _, _, _, _, _, _, _, _, _, rfl, k00, by omega, HML, HM, HD7⟩
      case round =>
        clear HD7 HML HM
        obtain ⟨r, k, ra, n0, c0, rb, n1, c1, rc, n2, c2, rfl, hk0, hk3, HML, HM, HI⟩ := hrel
        by_cases hk : 0 < k
        · go_upto_region 11 with fail
          obtain ⟨base, hbase⟩ : ∃ n, n = wr.heap.size := ⟨_, rfl⟩
          have HTB2 : Hid (tb < base) := Lib.hid (by rw [hbase]; exact HI.out.si.src.lt)
          have HAB : Hid (bL < base) := Lib.hid (by rw [hbase]; exact obj_lt HI.out.box)
          obtain ⟨I, hI⟩ : ∃ I, I = fun W : World => RgI w0 tb bL (.slice ra n0 c0) (.slice rb n1 c1) (.slice rc n2 c2) r W ∧ base ≤ W.heap.size := ⟨_, rfl⟩
          have HIO : Hid (∀ W, I W → RgI w0 tb bL (.slice ra n0 c0) (.slice rb n1 c1) (.slice rc n2 c2) r W ∧ base ≤ W.heap.size) := Lib.hid fun W hW => by rw [hI] at hW; exact hW
          have HII : Hid (∀ W, RgI w0 tb bL (.slice ra n0 c0) (.slice rb n1 c1) (.slice rc n2 c2) r W → base ≤ W.heap.size → I W) := Lib.hid fun W hW h => by rw [hI]; exact ⟨hW, h⟩
          have HI0 : Hid (I wr) := Lib.hid (HII.out _ HI.out (by rw [hbase]; exact Nat.le_refl _))
          have HIB : Hid (∀ W W', I W → Below W.heap.size W W' → I W') := Lib.hid fun W W' hW hb => HII.out _ ((HIO.out W hW).1.below hb) (Nat.le_trans (HIO.out W hW).2 hb.size)
          have HID : Hid (∀ W, I W → I W.drew) := Lib.hid fun W hW => HIB.out _ _ hW (Below.refl _ _).drew
          have HIA : Hid (∀ W o, I W → I (W.alloc o)) := Lib.hid fun W o hW => HIB.out _ _ hW (below_alloc W o)
          have HCL : Hid (∀ W, I W → ∀ i, W.cell? ⟨bL, i, none⟩ = #[.slice ra n0 c0, .slice rb n1 c1, .slice rc n2 c2][i]?) := Lib.hid fun W hW i => obj_cell (HIO.out W hW).1.box i
          have HBOX : Hid (∀ W, I W → RBox base W.heap.size (W.alloc (.cells #[.slice none 0 0, .slice none 0 0, .slice none 0 0] 29))) := Lib.hid fun W hW => ⟨(HIO.out W hW).2, _, _, _, _, _, _, _, _, _, heap_alloc_new _ _⟩
          have HRG : Hid (∀ (n : Int), 1 ≤ n → n ≤ 1000 → ∀ W, I W → Calls Try.prog 18 #[.pointer (some ⟨tb, 0, none⟩), .int .i64 1, .int .i64 n] W fun e w' => ∃ q : Int, e = .returned (.int .i64 q) ∧ (1 ≤ q ∧ q ≤ n) ∧ I w' ∧ (SrcAt W tb ∧ W.grownBy w' (some tb))) := Lib.hid fun n hn hn1 W hW => by
            refine (range_in (HIO.out W hW).1.si 1 n hn (by omega) (by omega)).mono ?_
            rintro e w' ⟨q, rfl, h1, h2, h3, h4⟩
            exact ⟨q, rfl, ⟨h1, h2⟩, HII.out _ ((HIO.out W hW).1.turn h3.src h4) (Nat.le_trans (HIO.out W hW).2 h4.size), (HIO.out W hW).1.si.src, h4⟩
          have HPO : Hid (∀ (id who am : Int) W, I W → (1 ≤ id ∧ id ≤ 2) → (1 ≤ who ∧ who ≤ 4) → (1 ≤ am ∧ am ≤ 9) → Calls Try.prog 37 #[.agg #[.slice ra n0 c0, .slice rb n1 c1, .slice rc n2 c2], .int .i64 0, .int .i64 id, .int .i64 who, .int .i64 (1000 * am)] W fun e w' => ∃ (xX : Option Addr) (nX : Nat) (cX : Nat) (yX : Option Addr) (mX : Nat) (dX : Nat) (zX : Option Addr) (kX : Nat) (eX : Nat), e = .returned (.tuple #[.agg #[.slice xX nX cX, .slice yX mX dX, .slice zX kX eX], .int .i64 0]) ∧ MarkR r sA sB (.slice xX nX cX) (.slice yX mX dX) (.slice zX kX eX) w' ∧ I w' ∧ Below W.heap.size W w') := Lib.hid fun id who am W hW h1 h2 h3 => by
            have hl : r.ms.length < 3 := by have := HML.out; omega
            have he := HM.out.issue_ok hl h1 h2 h3
            refine (ryIssue_ok r _ _ _ 0 id who (1000 * am) W HM.out.ok (HIO.out W hW).1.reg).mono ?_
            rintro e w' ⟨x', y', z', rfl, h5, h6⟩
            obtain ⟨xX, nX, cX, yX, mX, dX, zX, kX, eX, rfl, rfl, rfl⟩ := h5.slices
            refine ⟨xX, nX, cX, yX, mX, dX, zX, kX, eX, by rw [he], ⟨_, HM.out.issue hl (by omega) he, ?_, h5⟩, HIB.out _ _ hW h6, h6⟩
            unfold addV
            rw [if_pos he]
            simp [addM]
          have HIP : Hid (∀ W (bE : Nat) (x0 : Option Addr) (p0 q0 : Nat) (x1 : Option Addr) (p1 q1 : Nat) (x2 : Option Addr) (p2 q2 : Nat), I W → base ≤ bE → (∃ (z0 : Option Addr) (z1 z2 : Nat) (z3 : Option Addr) (z4 z5 : Nat) (z6 : Option Addr) (z7 z8 : Nat), W.heap[bE]? = some (.cells #[.slice z0 z1 z2, .slice z3 z4 z5, .slice z6 z7 z8] 29 (0, 0))) → I (put3 W bE (.slice x0 p0 q0) (.slice x1 p1 q1) (.slice x2 p2 q2))) := Lib.hid fun W bE x0 p0 q0 x1 p1 q1 x2 p2 q2 hW hb hx => by
            obtain ⟨_, _, _, _, _, _, _, _, _, hx⟩ := hx
            have hg := put3_grown W bE (.slice x0 p0 q0) (.slice x1 p1 q1) (.slice x2 p2 q2)
            have hl := lone_reg hx
            obtain ⟨h1, h2⟩ := HIO.out W hW
            have hAB := HAB.out
            have h3 := h1.out
            exact HII.out _ ⟨h1.si.grown hg (fun q e => by injection e with e; omega), (hg.block _ (obj_lt h1.box) (by simp; omega)).trans h1.box, h1.reg.keepL hl hg, h1.ne, h1.out⟩ (Nat.le_trans h2 hg.size)
          have egR := enters_of Try.func18 (by kernel_rfl) rfl
          have egP := enters_of Try.func37 (by kernel_rfl) rfl
          clear hI hbase HII
          obtain ⟨P, hP⟩ : ∃ P : Nat → Value → World → Prop, P = fun j v W => match j with | 0 => (v = .agg #[.slice ra n0 c0, .slice rb n1 c1, .slice rc n2 c2]) | 1 => (v = .pointer (some ⟨tb, 0, none⟩)) | 2 => (∃ id, v = .int .i64 id ∧ (1 ≤ id ∧ id ≤ 2)) | 3 => (v = .pointer (some ⟨tb, 0, none⟩)) | 4 => (∃ who, v = .int .i64 who ∧ (1 ≤ who ∧ who ≤ 4)) | 5 => (v = .pointer (some ⟨tb, 0, none⟩)) | 6 => (∃ am, v = .int .i64 am ∧ (1 ≤ am ∧ am ≤ 9)) | 7 => (∃ am, v = .int .i64 (1000 * am) ∧ (1 ≤ am ∧ am ≤ 9)) | 8 => (∃ xX nX cX yX mX dX zX kX eX, v = .tuple #[.agg #[.slice xX nX cX, .slice yX mX dX, .slice zX kX eX], .int .i64 0] ∧ MarkR r sA sB (.slice xX nX cX) (.slice yX mX dX) (.slice zX kX eX) W) | 9 => (∃ xX nX cX yX mX dX zX kX eX, v = .tuple #[.agg #[.slice xX nX cX, .slice yX mX dX, .slice zX kX eX], .int .i64 0] ∧ MarkR r sA sB (.slice xX nX cX) (.slice yX mX dX) (.slice zX kX eX) W) | 10 => (∃ xX nX cX yX mX dX zX kX eX, v = .agg #[.slice xX nX cX, .slice yX mX dX, .slice zX kX eX] ∧ MarkR r sA sB (.slice xX nX cX) (.slice yX mX dX) (.slice zX kX eX) W) | 11 => (v = .int .i64 0) | 12 => (∃ bE, v = .pointer (some ⟨bE, 0, none⟩) ∧ RBox base bE W) | 14 => (v = .int .i64 0) | _ => True := ⟨_, rfl⟩
          have HPI0 : Hid (∀ v W, P 0 v W ↔ (v = .agg #[.slice ra n0 c0, .slice rb n1 c1, .slice rc n2 c2])) := Lib.hid fun v W => by rw [hP] <;> exact Iff.rfl
          have HPI1 : Hid (∀ v W, P 1 v W ↔ (v = .pointer (some ⟨tb, 0, none⟩))) := Lib.hid fun v W => by rw [hP] <;> exact Iff.rfl
          have HPI2 : Hid (∀ v W, P 2 v W ↔ (∃ id, v = .int .i64 id ∧ (1 ≤ id ∧ id ≤ 2))) := Lib.hid fun v W => by rw [hP] <;> exact Iff.rfl
          have HPI3 : Hid (∀ v W, P 3 v W ↔ (v = .pointer (some ⟨tb, 0, none⟩))) := Lib.hid fun v W => by rw [hP] <;> exact Iff.rfl
          have HPI4 : Hid (∀ v W, P 4 v W ↔ (∃ who, v = .int .i64 who ∧ (1 ≤ who ∧ who ≤ 4))) := Lib.hid fun v W => by rw [hP] <;> exact Iff.rfl
          have HPI5 : Hid (∀ v W, P 5 v W ↔ (v = .pointer (some ⟨tb, 0, none⟩))) := Lib.hid fun v W => by rw [hP] <;> exact Iff.rfl
          have HPI6 : Hid (∀ v W, P 6 v W ↔ (∃ am, v = .int .i64 am ∧ (1 ≤ am ∧ am ≤ 9))) := Lib.hid fun v W => by rw [hP] <;> exact Iff.rfl
          have HPI7 : Hid (∀ v W, P 7 v W ↔ (∃ am, v = .int .i64 (1000 * am) ∧ (1 ≤ am ∧ am ≤ 9))) := Lib.hid fun v W => by rw [hP] <;> exact Iff.rfl
          have HPI8 : Hid (∀ v W, P 8 v W ↔ (∃ xX nX cX yX mX dX zX kX eX, v = .tuple #[.agg #[.slice xX nX cX, .slice yX mX dX, .slice zX kX eX], .int .i64 0] ∧ MarkR r sA sB (.slice xX nX cX) (.slice yX mX dX) (.slice zX kX eX) W)) := Lib.hid fun v W => by rw [hP] <;> exact Iff.rfl
          have HPI9 : Hid (∀ v W, P 9 v W ↔ (∃ xX nX cX yX mX dX zX kX eX, v = .tuple #[.agg #[.slice xX nX cX, .slice yX mX dX, .slice zX kX eX], .int .i64 0] ∧ MarkR r sA sB (.slice xX nX cX) (.slice yX mX dX) (.slice zX kX eX) W)) := Lib.hid fun v W => by rw [hP] <;> exact Iff.rfl
          have HPI10 : Hid (∀ v W, P 10 v W ↔ (∃ xX nX cX yX mX dX zX kX eX, v = .agg #[.slice xX nX cX, .slice yX mX dX, .slice zX kX eX] ∧ MarkR r sA sB (.slice xX nX cX) (.slice yX mX dX) (.slice zX kX eX) W)) := Lib.hid fun v W => by rw [hP] <;> exact Iff.rfl
          have HPI11 : Hid (∀ v W, P 11 v W ↔ (v = .int .i64 0)) := Lib.hid fun v W => by rw [hP] <;> exact Iff.rfl
          have HPI12 : Hid (∀ v W, P 12 v W ↔ (∃ bE, v = .pointer (some ⟨bE, 0, none⟩) ∧ RBox base bE W)) := Lib.hid fun v W => by rw [hP] <;> exact Iff.rfl
          have HPI14 : Hid (∀ v W, P 14 v W ↔ (v = .int .i64 0)) := Lib.hid fun v W => by rw [hP] <;> exact Iff.rfl
          have HKP : Hid (∀ (j : Nat) v W W', Below W.heap.size W W' → P j v W → P j v W') := Lib.hid (by
            rw [hP]
            intro j v W W' hb h
            match j, h with
            | 0, h => exact h
            | 1, h => exact h
            | 2, ⟨id, e, s0⟩ => exact ⟨id, e, s0⟩
            | 3, h => exact h
            | 4, ⟨who, e, s0⟩ => exact ⟨who, e, s0⟩
            | 5, h => exact h
            | 6, ⟨am, e, s0⟩ => exact ⟨am, e, s0⟩
            | 7, ⟨am, e, s0⟩ => exact ⟨am, e, s0⟩
            | 8, ⟨xX, nX, cX, yX, mX, dX, zX, kX, eX, e, s0⟩ => exact ⟨xX, nX, cX, yX, mX, dX, zX, kX, eX, e, s0.below hb⟩
            | 9, ⟨xX, nX, cX, yX, mX, dX, zX, kX, eX, e, s0⟩ => exact ⟨xX, nX, cX, yX, mX, dX, zX, kX, eX, e, s0.below hb⟩
            | 10, ⟨xX, nX, cX, yX, mX, dX, zX, kX, eX, e, s0⟩ => exact ⟨xX, nX, cX, yX, mX, dX, zX, kX, eX, e, s0.below hb⟩
            | 11, h => exact h
            | 12, ⟨bE, e, s0⟩ => exact ⟨bE, e, s0.below hb⟩
            | 13, _ => trivial
            | 14, h => exact h
            | j + 15, _ => trivial)
          have HKT : Hid (∀ (j : Nat) v W W', SrcAt W tb → W.grownBy W' (some tb) → P j v W → P j v W') := Lib.hid (by
            rw [hP]
            intro j v W W' hs hg h
            match j, h with
            | 0, h => exact h
            | 1, h => exact h
            | 2, ⟨id, e, s0⟩ => exact ⟨id, e, s0⟩
            | 3, h => exact h
            | 4, ⟨who, e, s0⟩ => exact ⟨who, e, s0⟩
            | 5, h => exact h
            | 6, ⟨am, e, s0⟩ => exact ⟨am, e, s0⟩
            | 7, ⟨am, e, s0⟩ => exact ⟨am, e, s0⟩
            | 8, ⟨xX, nX, cX, yX, mX, dX, zX, kX, eX, e, s0⟩ => exact ⟨xX, nX, cX, yX, mX, dX, zX, kX, eX, e, s0.turn hs hg⟩
            | 9, ⟨xX, nX, cX, yX, mX, dX, zX, kX, eX, e, s0⟩ => exact ⟨xX, nX, cX, yX, mX, dX, zX, kX, eX, e, s0.turn hs hg⟩
            | 10, ⟨xX, nX, cX, yX, mX, dX, zX, kX, eX, e, s0⟩ => exact ⟨xX, nX, cX, yX, mX, dX, zX, kX, eX, e, s0.turn hs hg⟩
            | 11, h => exact h
            | 12, ⟨bE, e, s0⟩ => exact ⟨bE, e, s0.turn HTB2.out hg⟩
            | 13, _ => trivial
            | 14, h => exact h
            | j + 15, _ => trivial)
          have HKL : Hid (∀ (j : Nat) v W W' b0, Lone W b0 → W.grownBy W' (some b0) → (∀ b, RBox base b W → RBox base b W') → P j v W → P j v W') := Lib.hid (by
            rw [hP]
            intro j v W W' b0 hl hg hke h
            match j, h with
            | 0, h => exact h
            | 1, h => exact h
            | 2, ⟨id, e, s0⟩ => exact ⟨id, e, s0⟩
            | 3, h => exact h
            | 4, ⟨who, e, s0⟩ => exact ⟨who, e, s0⟩
            | 5, h => exact h
            | 6, ⟨am, e, s0⟩ => exact ⟨am, e, s0⟩
            | 7, ⟨am, e, s0⟩ => exact ⟨am, e, s0⟩
            | 8, ⟨xX, nX, cX, yX, mX, dX, zX, kX, eX, e, s0⟩ => exact ⟨xX, nX, cX, yX, mX, dX, zX, kX, eX, e, s0.keep hl hg⟩
            | 9, ⟨xX, nX, cX, yX, mX, dX, zX, kX, eX, e, s0⟩ => exact ⟨xX, nX, cX, yX, mX, dX, zX, kX, eX, e, s0.keep hl hg⟩
            | 10, ⟨xX, nX, cX, yX, mX, dX, zX, kX, eX, e, s0⟩ => exact ⟨xX, nX, cX, yX, mX, dX, zX, kX, eX, e, s0.keep hl hg⟩
            | 11, h => exact h
            | 12, ⟨bE, e, s0⟩ => exact ⟨bE, e, hke _ s0⟩
            | 13, _ => trivial
            | 14, h => exact h
            | j + 15, _ => trivial)
          clear hP
          go_cut [7, 8] (fun pv ev wx => ∃ (bE : Nat) (xX : Option Addr) (nX : Nat) (cX : Nat) (yX : Option Addr) (mX : Nat) (dX : Nat) (zX : Option Addr) (kX : Nat) (eX : Nat), pv = .pointer (some ⟨bE, 0, none⟩) ∧ ev = .int .i64 0 ∧ base ≤ bE ∧ Hid (I wx) ∧ Hid (wx.heap[bE]? = some (.cells #[.slice xX nX cX, .slice yX mX dX, .slice zX kX eX] 29 (0, 0))) ∧ Hid (MarkR r sA sB (.slice xX nX cX) (.slice yX mX dX) (.slice zX kX eX) wx))
          case first =>
            refine wp_region_store [36, 37, 38, 39, 40, 41, 42, 43, 44, 35, 45, 46, 7, 8] (slotS [36, 37, 38, 39, 40, 41, 42, 43, 44, 35, 45, 46, 7, 9999, 8]) (readsS [36, 37, 38, 39, 40, 41, 42, 43, 44, 35, 45, 46, 7, 9999, 8]) (RP [36, 37, 38, 39, 40, 41, 42, 43, 44, 35, 45, 46, 7, 9999, 8] P) I (fun f W => ∃ (bE : Nat) (xX : Option Addr) (nX : Nat) (cX : Nat) (yX : Option Addr) (mX : Nat) (dX : Nat) (zX : Option Addr) (kX : Nat) (eX : Nat), f 7 = .pointer (some ⟨bE, 0, none⟩) ∧ base ≤ bE ∧ I W ∧ W.heap[bE]? = some (.cells #[.slice xX nX cX, .slice yX mX dX, .slice zX kX eX] 29 (0, 0)) ∧ MarkR r sA sB (.slice xX nX cX) (.slice yX mX dX) (.slice zX kX eX) W) 13 8 [11, 14] (by decide) (by kernel_rfl) (by kernel_rfl) (by kernel_rfl) (by kernel_rfl) (HID.out _ HI0.out) (fun j f q v W hq h => RP.upd hq h) ?_ ?_ ?_ ?_
            case refine_1 =>
              intro iq hiq hne f W hIW hdep0
              have hiq' : iq < 15 := hiq
              have hdep : ∀ j, j ≠ 13 → depB _ iq j = true → P j (f (slotS [36, 37, 38, 39, 40, 41, 42, 43, 44, 35, 45, 46, 7, 9999, 8] j)) W := hdep0
              clear hdep0
              generalize ha1 : putsL _ [36, 37, 38, 39, 40, 41, 42, 43, 44, 35, 45, 46, 7, 8] f = a1
              match iq, hiq', hne, hdep with
              | 0, _, _, hdep0 =>
                have E3 : a1.tmps[3]?.getD undef = .pointer (some ⟨bL, 0, none⟩) := by rw [← ha1]; exact (putsL_out2 _ _ _ _ (by decide)).trans rfl
                have v0 : W.cell? ⟨bL, 0, none⟩ = some (.slice ra n0 c0) := by simpa using HCL.out W hIW 0
                have v1 : W.cell? ⟨bL, 1, none⟩ = some (.slice rb n1 c1) := by simpa using HCL.out W hIW 1
                have v2 : W.cell? ⟨bL, 2, none⟩ = some (.slice rc n2 c2) := by simpa using HCL.out W hIW 2
                exact wpOp_val rfl rfl (v := .agg #[.slice ra n0 c0, .slice rb n1 c1, .slice rc n2 c2]) (w' := W) (by simp [execOp, go_sem, E3, v0, v1, v2]) ⟨hIW, fun _ h => h, _, by decide, rfl, RP.set ((HPI0.out _ _).2 rfl)⟩
              | 1, _, _, hdep0 =>
                have E0 : a1.tmps[0]?.getD undef = .pointer (some ⟨tb, 0, none⟩) := by rw [← ha1]; exact (putsL_out2 _ _ _ _ (by decide)).trans rfl
                exact wpOp_val rfl rfl (v := .pointer (some ⟨tb, 0, none⟩)) (w' := W) (by simp [execOp, go_sem, E0]) ⟨hIW, fun _ h => h, _, by decide, rfl, RP.set ((HPI1.out _ _).2 rfl)⟩
              | 2, _, _, hdep0 =>
                have hd1 := (HPI1.out _ _).1 (hdep0 1 (by decide) (by kernel_rfl))
                have E37 : a1.tmps[37]?.getD undef = .pointer (some ⟨tb, 0, none⟩) := by rw [← ha1]; exact (putsL_in2 _ _ _ _ (by decide) (show 37 < 51 from by decide)).trans hd1
                refine wpOp_call rfl rfl (n := 18) (vs := #[.pointer (some ⟨tb, 0, none⟩), .int .i64 1, .int .i64 2]) (by have := egR #[.pointer (some ⟨tb, 0, none⟩), .int .i64 1, .int .i64 2] W; simp [execOp, E37, resolve, invoke, go_sem] <;> exact this) ((HRG.out 2 (by omega) (by omega) W hIW).mono fun e w' hh => (by obtain ⟨id, rfl, p0, hJ', hb'⟩ := hh; exact ⟨_, rfl, (HPI2.out _ _).2 ⟨_, rfl, p0⟩, hJ', hb'⟩ : ∃ v, e = .returned v ∧ (P 2 v w' ∧ I w' ∧ SrcAt W tb ∧ W.grownBy w' (some tb)))) ?_
                rintro v w' ⟨hv, hI', hb'⟩
                exact ⟨hI', fun j h => HKT.out j _ _ _ hb'.1 hb'.2 h, _, by decide, rfl, RP.set hv⟩
              | 3, _, _, hdep0 =>
                have E0 : a1.tmps[0]?.getD undef = .pointer (some ⟨tb, 0, none⟩) := by rw [← ha1]; exact (putsL_out2 _ _ _ _ (by decide)).trans rfl
                exact wpOp_val rfl rfl (v := .pointer (some ⟨tb, 0, none⟩)) (w' := W) (by simp [execOp, go_sem, E0]) ⟨hIW, fun _ h => h, _, by decide, rfl, RP.set ((HPI3.out _ _).2 rfl)⟩
              | 4, _, _, hdep0 =>
                have hd3 := (HPI3.out _ _).1 (hdep0 3 (by decide) (by kernel_rfl))
                have E39 : a1.tmps[39]?.getD undef = .pointer (some ⟨tb, 0, none⟩) := by rw [← ha1]; exact (putsL_in2 _ _ _ _ (by decide) (show 39 < 51 from by decide)).trans hd3
                refine wpOp_call rfl rfl (n := 18) (vs := #[.pointer (some ⟨tb, 0, none⟩), .int .i64 1, .int .i64 4]) (by have := egR #[.pointer (some ⟨tb, 0, none⟩), .int .i64 1, .int .i64 4] W; simp [execOp, E39, resolve, invoke, go_sem] <;> exact this) ((HRG.out 4 (by omega) (by omega) W hIW).mono fun e w' hh => (by obtain ⟨who, rfl, p0, hJ', hb'⟩ := hh; exact ⟨_, rfl, (HPI4.out _ _).2 ⟨_, rfl, p0⟩, hJ', hb'⟩ : ∃ v, e = .returned v ∧ (P 4 v w' ∧ I w' ∧ SrcAt W tb ∧ W.grownBy w' (some tb)))) ?_
                rintro v w' ⟨hv, hI', hb'⟩
                exact ⟨hI', fun j h => HKT.out j _ _ _ hb'.1 hb'.2 h, _, by decide, rfl, RP.set hv⟩
              | 5, _, _, hdep0 =>
                have E0 : a1.tmps[0]?.getD undef = .pointer (some ⟨tb, 0, none⟩) := by rw [← ha1]; exact (putsL_out2 _ _ _ _ (by decide)).trans rfl
                exact wpOp_val rfl rfl (v := .pointer (some ⟨tb, 0, none⟩)) (w' := W) (by simp [execOp, go_sem, E0]) ⟨hIW, fun _ h => h, _, by decide, rfl, RP.set ((HPI5.out _ _).2 rfl)⟩
              | 6, _, _, hdep0 =>
                have hd5 := (HPI5.out _ _).1 (hdep0 5 (by decide) (by kernel_rfl))
                have E41 : a1.tmps[41]?.getD undef = .pointer (some ⟨tb, 0, none⟩) := by rw [← ha1]; exact (putsL_in2 _ _ _ _ (by decide) (show 41 < 51 from by decide)).trans hd5
                refine wpOp_call rfl rfl (n := 18) (vs := #[.pointer (some ⟨tb, 0, none⟩), .int .i64 1, .int .i64 9]) (by have := egR #[.pointer (some ⟨tb, 0, none⟩), .int .i64 1, .int .i64 9] W; simp [execOp, E41, resolve, invoke, go_sem] <;> exact this) ((HRG.out 9 (by omega) (by omega) W hIW).mono fun e w' hh => (by obtain ⟨am, rfl, p0, hJ', hb'⟩ := hh; exact ⟨_, rfl, (HPI6.out _ _).2 ⟨_, rfl, p0⟩, hJ', hb'⟩ : ∃ v, e = .returned v ∧ (P 6 v w' ∧ I w' ∧ SrcAt W tb ∧ W.grownBy w' (some tb)))) ?_
                rintro v w' ⟨hv, hI', hb'⟩
                exact ⟨hI', fun j h => HKT.out j _ _ _ hb'.1 hb'.2 h, _, by decide, rfl, RP.set hv⟩
              | 7, _, _, hdep0 =>
                have hd6 := (HPI6.out _ _).1 (hdep0 6 (by decide) (by kernel_rfl))
                obtain ⟨am, q6, r6_0⟩ := hd6
                have E42 : a1.tmps[42]?.getD undef = .int .i64 am := by rw [← ha1]; exact (putsL_in2 _ _ _ _ (by decide) (show 42 < 51 from by decide)).trans q6
                have hw43 : IntKind.i64.wrap (1000 * am) = 1000 * am := IntWalk.i64_in _ (by obtain ⟨h1, h2⟩ := r6_0; omega)
                exact wpOp_val rfl rfl (v := .int .i64 (1000 * am)) (w' := W) (by simp [execOp, go_sem, E42, hw43]) ⟨hIW, fun _ h => h, _, by decide, rfl, RP.set ((HPI7.out _ _).2 ⟨_, rfl, r6_0⟩)⟩
              | 8, _, _, hdep0 =>
                have hd0 := (HPI0.out _ _).1 (hdep0 0 (by decide) (by kernel_rfl))
                have hd2 := (HPI2.out _ _).1 (hdep0 2 (by decide) (by kernel_rfl))
                have hd4 := (HPI4.out _ _).1 (hdep0 4 (by decide) (by kernel_rfl))
                have hd7 := (HPI7.out _ _).1 (hdep0 7 (by decide) (by kernel_rfl))
                have E36 : a1.tmps[36]?.getD undef = .agg #[.slice ra n0 c0, .slice rb n1 c1, .slice rc n2 c2] := by rw [← ha1]; exact (putsL_in2 _ _ _ _ (by decide) (show 36 < 51 from by decide)).trans hd0
                obtain ⟨id, q2, r2_0⟩ := hd2
                have E38 : a1.tmps[38]?.getD undef = .int .i64 id := by rw [← ha1]; exact (putsL_in2 _ _ _ _ (by decide) (show 38 < 51 from by decide)).trans q2
                obtain ⟨who, q4, r4_0⟩ := hd4
                have E40 : a1.tmps[40]?.getD undef = .int .i64 who := by rw [← ha1]; exact (putsL_in2 _ _ _ _ (by decide) (show 40 < 51 from by decide)).trans q4
                obtain ⟨am, q7, r7_0⟩ := hd7
                have E43 : a1.tmps[43]?.getD undef = .int .i64 (1000 * am) := by rw [← ha1]; exact (putsL_in2 _ _ _ _ (by decide) (show 43 < 51 from by decide)).trans q7
                refine wpOp_call rfl rfl (n := 37) (vs := #[.agg #[.slice ra n0 c0, .slice rb n1 c1, .slice rc n2 c2], .int .i64 0, .int .i64 id, .int .i64 who, .int .i64 (1000 * am)]) (by have := egP #[.agg #[.slice ra n0 c0, .slice rb n1 c1, .slice rc n2 c2], .int .i64 0, .int .i64 id, .int .i64 who, .int .i64 (1000 * am)] W; simp [execOp, E36, E38, E40, E43, resolve, invoke, go_sem] <;> exact this) ((HPO.out _ _ _ W hIW r2_0 r4_0 r7_0).mono fun e w' hh => (by obtain ⟨xX, nX, cX, yX, mX, dX, zX, kX, eX, rfl, p0, hJ', hb'⟩ := hh; exact ⟨_, rfl, (HPI8.out _ _).2 ⟨_, _, _, _, _, _, _, _, _, rfl, p0⟩, hJ', hb'⟩ : ∃ v, e = .returned v ∧ (P 8 v w' ∧ I w' ∧ Below W.heap.size W w'))) ?_
                rintro v w' ⟨hv, hI', hb'⟩
                exact ⟨hI', fun j h => HKP.out j _ _ _ hb' h, _, by decide, rfl, RP.set hv⟩
              | 9, _, _, hdep0 =>
                have hd8 := (HPI8.out _ _).1 (hdep0 8 (by decide) (by kernel_rfl))
                obtain ⟨xX, nX, cX, yX, mX, dX, zX, kX, eX, q8, r8_0⟩ := hd8
                have E44 : a1.tmps[44]?.getD undef = .tuple #[.agg #[.slice xX nX cX, .slice yX mX dX, .slice zX kX eX], .int .i64 0] := by rw [← ha1]; exact (putsL_in2 _ _ _ _ (by decide) (show 44 < 51 from by decide)).trans q8
                exact wpOp_val rfl rfl (v := .tuple #[.agg #[.slice xX nX cX, .slice yX mX dX, .slice zX kX eX], .int .i64 0]) (w' := W) (by simp [execOp, go_sem, E44]) ⟨hIW, fun _ h => h, _, by decide, rfl, RP.set ((HPI9.out _ _).2 ⟨_, _, _, _, _, _, _, _, _, rfl, r8_0⟩)⟩
              | 10, _, _, hdep0 =>
                have hd9 := (HPI9.out _ _).1 (hdep0 9 (by decide) (by kernel_rfl))
                obtain ⟨xX, nX, cX, yX, mX, dX, zX, kX, eX, q9, r9_0⟩ := hd9
                have E35 : a1.tmps[35]?.getD undef = .tuple #[.agg #[.slice xX nX cX, .slice yX mX dX, .slice zX kX eX], .int .i64 0] := by rw [← ha1]; exact (putsL_in2 _ _ _ _ (by decide) (show 35 < 51 from by decide)).trans q9
                exact wpOp_val rfl rfl (v := .agg #[.slice xX nX cX, .slice yX mX dX, .slice zX kX eX]) (w' := W) (by simp [execOp, go_sem, E35]) ⟨hIW, fun _ h => h, _, by decide, rfl, RP.set ((HPI10.out _ _).2 ⟨_, _, _, _, _, _, _, _, _, rfl, r9_0⟩)⟩
              | 11, _, _, hdep0 =>
                have hd9 := (HPI9.out _ _).1 (hdep0 9 (by decide) (by kernel_rfl))
                obtain ⟨xX, nX, cX, yX, mX, dX, zX, kX, eX, q9, r9_0⟩ := hd9
                have E35 : a1.tmps[35]?.getD undef = .tuple #[.agg #[.slice xX nX cX, .slice yX mX dX, .slice zX kX eX], .int .i64 0] := by rw [← ha1]; exact (putsL_in2 _ _ _ _ (by decide) (show 35 < 51 from by decide)).trans q9
                exact wpOp_val rfl rfl (v := .int .i64 0) (w' := W) (by simp [execOp, go_sem, E35]) ⟨hIW, fun _ h => h, _, by decide, rfl, RP.set ((HPI11.out _ _).2 rfl)⟩
              | 12, _, _, hdep0 =>
                exact wpOp_val rfl rfl (v := .pointer (some ⟨W.heap.size, 0, none⟩)) (w' := W.alloc (.cells #[.slice none 0 0, .slice none 0 0, .slice none 0 0] 29)) (by simp [execOp, go_sem]) ⟨(HIA.out _ _ hIW), fun j h => HKP.out j _ _ _ (below_alloc _ _) h, _, by decide, rfl, RP.set ((HPI12.out _ _).2 ⟨_, rfl, HBOX.out _ hIW⟩)⟩
              | 13, _, hne, _ => exact absurd rfl hne
              | 14, _, _, hdep0 =>
                have hd11 := (HPI11.out _ _).1 (hdep0 11 (by decide) (by kernel_rfl))
                have E46 : a1.tmps[46]?.getD undef = .int .i64 0 := by rw [← ha1]; exact (putsL_in2 _ _ _ _ (by decide) (show 46 < 51 from by decide)).trans hd11
                exact wpOp_val rfl rfl (v := .int .i64 0) (w' := W) (by simp [execOp, go_sem, E46]) ⟨hIW, fun _ h => h, _, by decide, rfl, RP.set ((HPI14.out _ _).2 rfl)⟩
              | iq + 15, h, _, _ => exact absurd h (by omega)
            case refine_2 =>
              intro iq hiq hfr f W hI1 hdep0
              have hdep : ∀ j, j ≠ 13 → depB _ iq j = true → P j (f (slotS [36, 37, 38, 39, 40, 41, 42, 43, 44, 35, 45, 46, 7, 9999, 8] j)) W := hdep0
              clear hdep0
              generalize ha1 : putsL _ [36, 37, 38, 39, 40, 41, 42, 43, 44, 35, 45, 46, 7, 8] f = a1
              simp only [List.mem_cons, List.mem_nil_iff, or_false] at hfr
              rcases hfr with rfl | rfl
              · have hdep0 := hdep
                have hd9 := (HPI9.out _ _).1 (hdep0 9 (by decide) (by kernel_rfl))
                obtain ⟨xX, nX, cX, yX, mX, dX, zX, kX, eX, q9, r9_0⟩ := hd9
                have E35 : a1.tmps[35]?.getD undef = .tuple #[.agg #[.slice xX nX cX, .slice yX mX dX, .slice zX kX eX], .int .i64 0] := by rw [← ha1]; exact (putsL_in2 _ _ _ _ (by decide) (show 35 < 51 from by decide)).trans q9
                exact wpOp_val rfl rfl (v := .int .i64 0) (w' := W) (by simp [execOp, go_sem, E35]) ⟨rfl, _, by decide, rfl, RP.set ((HPI11.out _ _).2 rfl), (by obtain ⟨bE, xX, nX, cX, yX, mX, dX, zX, kX, eX, h1, h2⟩ := hI1; exact ⟨bE, xX, nX, cX, yX, mX, dX, zX, kX, eX, (updF_other f _ (by decide)).trans h1, h2⟩)⟩
              · have hdep0 := hdep
                have hd11 := (HPI11.out _ _).1 (hdep0 11 (by decide) (by kernel_rfl))
                have E46 : a1.tmps[46]?.getD undef = .int .i64 0 := by rw [← ha1]; exact (putsL_in2 _ _ _ _ (by decide) (show 46 < 51 from by decide)).trans hd11
                exact wpOp_val rfl rfl (v := .int .i64 0) (w' := W) (by simp [execOp, go_sem, E46]) ⟨rfl, _, by decide, rfl, RP.set ((HPI14.out _ _).2 rfl), (by obtain ⟨bE, xX, nX, cX, yX, mX, dX, zX, kX, eX, h1, h2⟩ := hI1; exact ⟨bE, xX, nX, cX, yX, mX, dX, zX, kX, eX, (updF_other f _ (by decide)).trans h1, h2⟩)⟩
            case refine_3 =>
              intro f W hIW hdep0
              have hdep : ∀ j, j < 15 → j ≠ 13 → ([11, 14] : List Nat).contains j = false → P j (f (slotS [36, 37, 38, 39, 40, 41, 42, 43, 44, 35, 45, 46, 7, 9999, 8] j)) W := hdep0
              have HRP : Hid (∀ j W', (∀ v, P j v W → P j v W') → RP [36, 37, 38, 39, 40, 41, 42, 43, 44, 35, 45, 46, 7, 9999, 8] P j f W → RP [36, 37, 38, 39, 40, 41, 42, 43, 44, 35, 45, 46, 7, 9999, 8] P j f W') := Lib.hid fun j W' h1 h2 => h1 _ h2
              clear hdep0
              generalize ha1 : putsL _ [36, 37, 38, 39, 40, 41, 42, 43, 44, 35, 45, 46, 7, 8] f = a1
              obtain ⟨bE, q12, r12_0⟩ := ((HPI12.out _ _).1 (hdep 12 (by decide) (by decide) (by decide)))
              have E7 : a1.tmps[7]?.getD undef = .pointer (some ⟨bE, 0, none⟩) := by rw [← ha1]; exact (putsL_in2 _ _ _ _ (by decide) (show 7 < 51 from by decide)).trans q12
              obtain ⟨xX, nX, cX, yX, mX, dX, zX, kX, eX, q10, r10_0⟩ := ((HPI10.out _ _).1 (hdep 10 (by decide) (by decide) (by decide)))
              have E45 : a1.tmps[45]?.getD undef = .agg #[.slice xX nX cX, .slice yX mX dX, .slice zX kX eX] := by rw [← ha1]; exact (putsL_in2 _ _ _ _ (by decide) (show 45 < 51 from by decide)).trans q10
              obtain ⟨hbE1, z0, z1, z2, z3, z4, z5, z6, z7, z8, hbE2⟩ := r12_0
              have p0 := obj_cell hbE2 0
              have p1 := obj_cell hbE2 1
              have p2 := obj_cell hbE2 2
              have pf0 := obj_free hbE2 0
              have pf1 := obj_free hbE2 1
              have pf2 := obj_free hbE2 2
              simp at p0 p1 p2
              have e8 : f 7 = .pointer (some ⟨bE, 0, none⟩) := q12
              have hg : W.grownBy (put3 W bE (.slice xX nX cX) (.slice yX mX dX) (.slice zX kX eX)) (some bE) := put3_grown _ _ _ _ _
              have hl := lone_reg hbE2
              have hset := put3_at hbE2 rfl (.slice xX nX cX) (.slice yX mX dX) (.slice zX kX eX)
              exact wpOp_skip rfl rfl (w' := put3 W bE (.slice xX nX cX) (.slice yX mX dX) (.slice zX kX eX)) (by simp [execOp, go_sem, E7, E45, p0, p1, p2, pf0, pf1, pf2, put3]) ⟨rfl, ⟨bE, xX, nX, cX, yX, mX, dX, zX, kX, eX, e8, hbE1, HIP.out _ _ _ _ _ _ _ _ _ _ _ hIW hbE1 ⟨_, _, _, _, _, _, _, _, _, hbE2⟩, hset, r10_0.keep hl hg⟩, fun j h => HRP.out j _ (fun v h => HKL.out j v W _ bE hl hg (fun b hb => hb.put hbE2) h) h⟩
            case refine_4 =>
              intro f W hI1 hR
              have h8 := (HPI14.out _ _).1 (hR 14 (show 14 < 15 from by decide) (by decide))
              simp only [putsL, List.foldl_cons, List.foldl_nil, Act.put, List.setIfInBounds_toArray, List.set_cons_zero, List.set_cons_succ]
              obtain ⟨bE, xX, nX, cX, yX, mX, dX, zX, kX, eX, h1, h2, h3, h4, h5⟩ := hI1
              go_wp2
              go_meet
              exact ⟨bE, xX, nX, cX, yX, mX, dX, zX, kX, eX, (by first | exact h1 | rfl), (by first | exact h8 | rfl), h2, Lib.hid h3, Lib.hid h4, Lib.hid h5⟩
          case rest =>
            obtain ⟨bE, xX, nX, cX, yX, mX, dX, zX, kX, eX, rfl, rfl, hbE, HI9, HBE, HPB⟩ := hcut
            clear HPO HRG HBOX HCL HIP HIA HID HIB HI0
            have HD9 := Lib.hid (HIO.out _ HI9.out).1
            obtain ⟨r', q1, q2, q3⟩ := HPB.out
            have HQ3 := Lib.hid q3
            have HM2 := Lib.hid q1
            have HML2 : Hid ((r'.ms.length : Int) + (k - 1) ≤ 3) := Lib.hid (by have := HML.out; omega)
            have hex := HBE.out
            have g0 := obj_cell hex 0
            have g1 := obj_cell hex 1
            have g2 := obj_cell hex 2
            simp at g0 g1 g2
            have hA := HD9.out.box
            have s0 := obj_cell hA 0
            have s1 := obj_cell hA 1
            have s2 := obj_cell hA 2
            have sf0 := obj_free hA 0
            have sf1 := obj_free hA 1
            have sf2 := obj_free hA 2
            simp at s0 s1 s2
            have HD10 : Hid (RgI w0 tb bL (.slice xX nX cX) (.slice yX mX dX) (.slice zX kX eX) r' (put3 wc bL (.slice xX nX cX) (.slice yX mX dX) (.slice zX kX eX))) := Lib.hid (by
              have hg := put3_grown wc bL (.slice xX nX cX) (.slice yX mX dX) (.slice zX kX eX)
              exact ⟨HD9.out.si.grown hg (fun q e => by injection e with e; have := HD9.out.out; omega), put3_at hA rfl _ _ _, HQ3.out.keepL (lone_reg hA) hg, HD9.out.ne, HD9.out.out⟩)
            have hwk : IntKind.i64.wrap (k - 1) = k - 1 := IntWalk.i64_in _ (by omega)
            obtain ⟨w10, hw10⟩ : ∃ W, W = put3 wc bL (.slice xX nX cX) (.slice yX mX dX) (.slice zX kX eX) := ⟨_, rfl⟩
            rw [← hw10] at HD10
            unfold put3 at hw10
            clear hex hA q1 q2 q3
            go_upto_region 10 with fail
            rw [← hw10]
            clear hw10
            go_wp2
            go_roundw
            case rel => exact ⟨r', k - 1, _, _, _, _, _, _, _, _, _, by first | rfl | go_num, by omega, by omega, HML2, HM2, HD10⟩
            case measure => simp [RowKit.intOf]; omega
        · obtain rfl : k = 0 := by omega
          have hbox := HI.out.box
          have s0 := obj_cell hbox 0
          have s1 := obj_cell hbox 1
          have s2 := obj_cell hbox 2
          have sf0 := obj_free hbox 0
          have sf1 := obj_free hbox 1
          have sf2 := obj_free hbox 2
          simp at s0 s1 s2
          have hr := HNE.out _ HI.out.si
          have t0 := obj_cell hr 0
          have t1 := obj_cell hr 1
          have t2 := obj_cell hr 2
          have tf0 := obj_free hr 0
          have tf1 := obj_free hr 1
          have tf2 := obj_free hr 2
          simp at t0 t1 t2
          have HHR := Lib.hid hr
          clear hr hbox
          go_wp2
          exact ret3 HHR.out rfl _ _ _ (fun F hF => by
            have q0 := obj_cell hF 0
            have q1 := obj_cell hF 1
            have q2 := obj_cell hF 2
            simp [results, Try.results50, go_sem, q0, q1, q2]) rfl (mkt_post HM.out (HI.out.reg.keepL (lone_reg HHR.out) (put3_grown _ _ _ _ _)) ((HEND.out _ HI.out.si).put3 hlt))

/-- Switches, for every tape. -/
theorem roswaps_any (v : Value) (l : Nat) (w : World) (hi : IntsAt w v l w.heap.size) (hn : l ≤ 9223372036854775807) :
    Calls Try.prog 10 #[v] w fun e w' => e = .returned (.bool true) ∧ Below w.heap.size w w' := roswaps_of (fun tb w h => market_any tb w h) v l w hi hn

end Go.Proofs.Ytnfllgeneehjjaa
