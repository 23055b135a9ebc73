/- The source's Deal: a right register, dealt with; for every tape. -/
import Derived.Test.YtblidmkkbcobgaaMRyJ
import Derived.Test.YtblidmkkbcobgaaMG1
import Derived.Test.YtblidmkkbcobgaaMSecS
set_option linter.unusedSimpArgs false
set_option linter.unusedVariables false
set_option linter.unusedSimpArgs false
set_option linter.unusedVariables false
namespace Go.Proofs.Ytblidmkkbcobgaa
open Go.RowKit Go.Lib Go.Proofs

theorem not_src {w : World} {tb b o : Nat} {x y : Int} (hs : SrcAt w tb) (h0 : w.cell? ⟨b, o, none⟩ = some (.int .i64 x)) (h1 : w.cell? ⟨b, o + 1, none⟩ = some (.int .i64 y)) : b ≠ tb := by
  rintro rfl
  obtain ⟨ao, n, cap, k, h, _⟩ := hs
  rw [obj_cell h] at h0 h1
  match o with
  | 0 => simp at h0
  | o + 1 => simp at h1
/-- A list of structs that begin with two numbers stands through a turn of the source. -/
theorem ListAt.turn2 {α : Type} {f : α → List Value} {m : Nat} (hf : Fields f m) (hi : ∀ x, ∃ i j, (f x)[0]? = some (.int .i64 i) ∧ (f x)[1]? = some (.int .i64 j)) (h2 : 2 ≤ m) {w w' : World} {v : Value} {l : List α} (h : ListAt f m w v l) {tb : Nat}
    (hs : SrcAt w tb) (hg : w.grownBy w' (some tb)) : ListAt f m w' v l := by
  obtain ⟨h1, ao, cap, rfl, hc, h3⟩ := h
  refine ⟨h1, ao, cap, rfl, hc, ?_⟩
  by_cases h0 : l.length = 0
  · exact Or.inl h0
  · rcases h3 with h3 | ⟨g, o, rfl, hlt, hcell⟩
    · exact absurd h3 h0
    · have hm := hf.pos
      have e0 := cellsL_get hf l 0 0 (by omega) (by omega)
      have e1 := cellsL_get hf l 0 1 (by omega) (by omega)
      obtain ⟨i, j, q0, q1⟩ := hi l[0]
      rw [Nat.zero_mul, Nat.zero_add, q0] at e0
      rw [Nat.zero_mul, Nat.zero_add, q1] at e1
      have hmul : 2 ≤ l.length * m := Nat.le_trans h2 (Nat.le_mul_of_pos_left m (by omega))
      have c0 := hcell 0 (by omega)
      have c1 := hcell 1 (by omega)
      rw [e0] at c0
      rw [e1] at c1
      have hne := not_src hs c0 c1
      exact Or.inr ⟨g, o, rfl, Nat.lt_of_lt_of_le hlt hg.size, fun j hj => (World.cell?_of_block (hg.block g hlt fun e => by injection e with e; exact hne e)).trans (hcell j hj)⟩
theorem RegAt.turn {w w' : World} {x y z : Value} {r : Reg} (h : RegAt w x y z r) {tb : Nat} (hs : SrcAt w tb) (hg : w.grownBy w' (some tb)) : RegAt w' x y z r :=
  ⟨h.secs.turn2 secF (fun s => ⟨s.id, s.unit, rfl, rfl⟩) (by decide) hs hg, h.hs.turn2 hldF (fun s => ⟨s.sec, s.who, rfl, rfl⟩) (by decide) hs hg, h.ms.turn2 mvF (fun s => ⟨s.num, s.day, rfl, rfl⟩) (by decide) hs hg⟩

/-- A register dealt with: as it was, or with one move more. -/
inductive Dealt (r : Reg) (day : Int) : Reg → Int → Prop
  | none : Dealt r day r day
  | move (m : Mv) (d : Int) (hk : kindOk m) (hd : d = m.day) (h0 : day ≤ d) (h1 : d ≤ day + 100) (he : addE r m = 0) : Dealt r day (addM r (numM r m)) d
theorem add_ok {r : Reg} (h : RegOk r) {m : Mv} (he : addE r m = 0) : RegOk (addM r (numM r m)) := by
  have h1 := addE_ok h m
  rw [he] at h1
  split at h1
  · omega
  · rename_i hl
    exact h.add (by have := h.len; omega) rfl h1.symm
theorem Dealt.ok {r r' : Reg} {d d' : Int} (h : RegOk r) (hd : Dealt r d r' d') : RegOk r' := by
  cases hd with
  | none => exact h
  | move m _ hk hd h0 h1 he => exact add_ok h he
theorem Dealt.day {r r' : Reg} {d d' : Int} (hd : Dealt r d r' d') : d ≤ d' ∧ d' ≤ d + 100 := by
  cases hd with
  | none => omega
  | move m _ hk hd h0 h1 he => omega
theorem Dealt.secs {r r' : Reg} {d d' : Int} (hd : Dealt r d r' d') : r'.secs = r.secs := by
  cases hd with
  | none => rfl
  | move m _ hk hd h0 h1 he => rfl

/-- A world within the source's Deal. -/
structure DealI (w0 : World) (tb : Nat) (x y z : Value) (r : Reg) (W : World) : Prop where
  si : SI w0 tb W
  box : W.heap[w0.heap.size]? = some (.cells #[x, y, z] 29 (0, 0))
  out : W.heap[w0.heap.size + 1]? = some (.cells #[.slice none 0 0, .slice none 0 0, .slice none 0 0] 29 (0, 0))
  reg : RegAt W x y z r
theorem DealI.below {w0 : World} {tb : Nat} {x y z : Value} {r : Reg} {A B : World} (h : DealI w0 tb x y z r A) (hb : Below A.heap.size A B) : DealI w0 tb x y z r B := ⟨h.si.below hb, obj_below h.box hb, obj_below h.out hb, h.reg.below hb⟩
theorem DealI.turn {w0 : World} {tb : Nat} {x y z : Value} {r : Reg} {A B : World} (h : DealI w0 tb x y z r A) (hs : SrcAt B tb) (hg : A.grownBy B (some tb)) : DealI w0 tb x y z r B :=
  ⟨h.si.turn hs hg, obj_turn h.box hg (by have := h.si.lt; omega), obj_turn h.out hg (by have := h.si.lt; omega), h.reg.turn h.si.src hg⟩
/-- What came of a try. -/
structure Tried (r : Reg) (day nx : Int) (x y z : Value) (er : Int) (W : World) : Prop where
  out : ∃ v m, er = addE r m ∧ v = addV r m ∧ kindOk m ∧ m.day = nx ∧ RegAt W x y z v
theorem Tried.dealt {r : Reg} {day nx : Int} {x y z : Value} {W : World} (h : Tried r day nx x y z 0 W) (h0 : day ≤ nx) (h1 : nx ≤ day + 100) : ∃ r', Dealt r day r' nx ∧ RegAt W x y z r' := by
  obtain ⟨v, m, e1, e2, hk, hd, hr⟩ := h.out
  refine ⟨_, Dealt.move m nx hk hd.symm h0 h1 e1.symm, ?_⟩
  rw [e2] at hr
  unfold addV at hr
  rwa [if_pos e1.symm] at hr
/-- What Deal hands back. -/
def DealPost (w : World) (tb : Nat) (r : Reg) (day : Int) (e : Ending) (w' : World) : Prop :=
  ∃ x' y' z' r' d', e = .returned (.tuple #[.agg #[x', y', z'], .int .i64 d']) ∧ Dealt r day r' d' ∧ RegAt w' x' y' z' r' ∧ SI w tb w'
theorem RegAt.slices {w : World} {x y z : Value} {r : Reg} (h : RegAt w x y z r) : ∃ a0 n0 c0 a1 n1 c1 a2 n2 c2, x = .slice a0 n0 c0 ∧ y = .slice a1 n1 c1 ∧ z = .slice a2 n2 c2 := by
  obtain ⟨a0, c0, h0, -, -⟩ := h.secs.shape secF
  obtain ⟨a1, c1, h1, -, -⟩ := h.hs.shape hldF
  obtain ⟨a2, c2, h2, -, -⟩ := h.ms.shape mvF
  exact ⟨_, _, _, _, _, _, _, _, _, h0, h1, h2⟩

theorem DealI.put {w0 : World} {tb : Nat} {x y z : Value} {r : Reg} {A : World} (h : DealI w0 tb x y z r A) {b : Nat} {a0 a1 a2 : Option Addr} {n0 n1 n2 c0 c1 c2 : Nat} {T : TypeId} (hb : A.heap[b]? = some (.cells #[.slice a0 n0 c0, .slice a1 n1 c1, .slice a2 n2 c2] T (0, 0))) (hl : w0.heap.size + 1 < b) {v0 v1 v2 : Value} :
    DealI w0 tb x y z r (put3 A b v0 v1 v2) :=
  have hg := put3_grown A b v0 v1 v2
  ⟨h.si.grown hg (fun q e => by injection e with e; omega), (hg.block _ (obj_lt h.box) (by simp; omega)).trans h.box, (hg.block _ (obj_lt h.out) (by simp; omega)).trans h.out, h.reg.keepR hb hg⟩
theorem Tried.put {r : Reg} {day nx : Int} {x y z : Value} {er : Int} {W : World} (h : Tried r day nx x y z er W) {b : Nat} {a0 a1 a2 : Option Addr} {n0 n1 n2 c0 c1 c2 : Nat} {T : TypeId} (hb : W.heap[b]? = some (.cells #[.slice a0 n0 c0, .slice a1 n1 c1, .slice a2 n2 c2] T (0, 0))) {v0 v1 v2 : Value} : Tried r day nx x y z er (put3 W b v0 v1 v2) := by
  obtain ⟨v, m, h1, h2, h3, h4, h5⟩ := h.out
  exact ⟨v, m, h1, h2, h3, h4, h5.keepR hb (put3_grown _ _ _ _ _)⟩
theorem SI.put3 {w : World} {tb : Nat} {A : World} (h : SI w tb A) {b : Nat} (hb : tb < w.heap.size) {v0 v1 v2 : Value} (hl : w.heap.size ≤ b := by omega) : SI w tb (put3 A b v0 v1 v2) := h.grown (put3_grown A b v0 v1 v2) (fun q e => by injection e with e; omega)
theorem deal_post {w w' : World} {tb : Nat} {r r' : Reg} {day d' : Int} {x y z : Value} (h1 : Dealt r day r' d') (h2 : RegAt w' x y z r') (h3 : SI w tb w') : DealPost w tb r day (.returned (.tuple #[.agg #[x, y, z], .int .i64 d'])) w' := ⟨x, y, z, r', d', rfl, h1, h2, h3⟩

set_option maxRecDepth 100000 in
set_option maxHeartbeats 16000000 in
theorem sDeal_ok (tb : Nat) (r : Reg) (x y z : Value) (day : Int) (w : World) (hs : SrcAt w tb) (h : RegOk r) (hr : RegAt w x y z r) (hd : 0 ≤ day ∧ day ≤ 1000000) :
    Calls Try.prog 45 #[.pointer (some ⟨tb, 0, none⟩), .agg #[x, y, z], .int .i64 day] w (DealPost w tb r day) := by
  obtain ⟨a0, n0, c0, a1, n1, c1, a2, n2, c2, rfl, rfl, rfl⟩ := hr.slices
  have hlt := hs.lt
  have HIS := Lib.hid (fun d id a n W (hW : RegAt W (.slice a0 n0 c0) (.slice a1 n1 c1) (.slice a2 n2 c2) r) => ryIssue_ok r _ _ _ d id a n W h hW)
  have HTR := Lib.hid (fun d id a b n W (hW : RegAt W (.slice a0 n0 c0) (.slice a1 n1 c1) (.slice a2 n2 c2) r) => ryTransfer_ok r _ _ _ d id a b n W h hW)
  have HRE := Lib.hid (fun d id a n W (hW : RegAt W (.slice a0 n0 c0) (.slice a1 n1 c1) (.slice a2 n2 c2) r) => ryRedeem_ok r _ _ _ d id a n W h hW)
  obtain ⟨W1, hW1⟩ : ∃ W1, W1 = (w.alloc (.cells #[.slice a0 n0 c0, .slice a1 n1 c1, .slice a2 n2 c2] 29)).alloc (.cells #[.slice none 0 0, .slice none 0 0, .slice none 0 0] 29) := ⟨_, rfl⟩
  have HD1 : Hid (DealI w tb (.slice a0 n0 c0) (.slice a1 n1 c1) (.slice a2 n2 c2) r W1) := Lib.hid (by
    rw [hW1]
    exact ⟨((si_start hs).alloc _).alloc _, alloc1_at w _ _, alloc2_at w _ _, hr.below (below2 w _ _)⟩)
  clear hs h hr
  go_enter Try.func45, Try.ntmps45
  go_upto_region 1 with fail
  rw [← hW1]
  clear hW1
  go_wp2_with fail
  with_reducible refine Calls.mono (pick_in _ [0, 0, 1, 30] _ _ rfl HD1.out.si (by simp) (by simp) _ rfl _ (by simp)) ?_
  rintro e w2 ⟨p, rfl, hp, hi2, hg2⟩
  have HD2 := Lib.hid ((HD1.out.below (below_alloc _ _)).turn hi2.src hg2)
  have hp2 : 0 ≤ p ∧ p ≤ 30 := by simp at hp; omega
  clear hp hi2 hg2 HD1
  have hnx : IntKind.i64.wrap (day + p) = day + p := IntWalk.i64_in _ (by omega)
  go_wp2_with fail
  with_reducible refine Calls.mono (range_in HD2.out.si 1 3 (by omega) (by omega) (by omega)) ?_
  rintro e w3 ⟨id, rfl, id0, id1, hi3, hg3⟩
  have HD3 := Lib.hid (HD2.out.turn hi3.src hg3)
  clear hi3 hg3 HD2
  go_wp2_with fail
  with_reducible refine Calls.mono (range_in HD3.out.si 1 4 (by omega) (by omega) (by omega)) ?_
  rintro e w4 ⟨a, rfl, b0, b1, hi4, hg4⟩
  have HD4 := Lib.hid (HD3.out.turn hi4.src hg4)
  clear hi4 hg4 HD3
  go_wp2_with fail
  with_reducible refine Calls.mono (range_in HD4.out.si 1 4 (by omega) (by omega) (by omega)) ?_
  rintro e w5 ⟨b, rfl, b2, b3, hi5, hg5⟩
  have HD5 := Lib.hid (HD4.out.turn hi5.src hg5)
  clear hi5 hg5 HD4
  go_wp2_with fail
  with_reducible refine Calls.mono (pick_in _ [100, 300, 1000, 5000] _ _ rfl HD5.out.si (by simp) (by simp) _ rfl _ (by simp)) ?_
  rintro e w6 ⟨am, rfl, ham, hi6, hg6⟩
  have HD6 := Lib.hid ((HD5.out.below (below_alloc _ _)).turn hi6.src hg6)
  clear hi6 hg6 HD5 ham
  obtain ⟨w7, hw7⟩ : ∃ w7, w7 = w6.alloc (.cells #[.slice none 0 0, .slice none 0 0, .slice none 0 0] 29) := ⟨_, rfl⟩
  have HD7 : Hid (DealI w tb (.slice a0 n0 c0) (.slice a1 n1 c1) (.slice a2 n2 c2) r w7) := Lib.hid (by rw [hw7]; exact HD6.out.below (below_alloc _ _))
  obtain ⟨bX, hbX⟩ : ∃ b, b = w6.heap.size := ⟨_, rfl⟩
  have HX7 : Hid (w7.heap[bX]? = some (.cells #[.slice none 0 0, .slice none 0 0, .slice none 0 0] 29 (0, 0))) := Lib.hid (by rw [hw7, hbX]; exact heap_alloc_new _ _)
  have HNX : Hid (w.heap.size + 1 < bX) := Lib.hid (by rw [hbX]; exact obj_lt HD6.out.out)
  go_upto_region 5 with fail
  rw [← hw7, ← hbX]
  clear hw7 hbX HD6
  go_wp2_with fail
  with_reducible refine Calls.mono (n_in HD7.out.si 6 (by omega) (by omega)) ?_
  rintro e w8 ⟨k, rfl, k0, k1, hi8, hg8⟩
  have HD8 := Lib.hid (HD7.out.turn hi8.src hg8)
  have HX8 := Lib.hid (obj_turn HX7.out hg8 (by have := HNX.out; omega))
  clear hi8 hg8 HD7 HX7
  have hbox := HD8.out.box
  have r0 := obj_cell hbox 0
  have r1 := obj_cell hbox 1
  have r2 := obj_cell hbox 2
  simp at r0 r1 r2
  clear hbox
  rcases (show k = 0 ∨ k = 1 ∨ k = 2 ∨ k = 3 ∨ k = 4 ∨ k = 5 by omega) with rfl | rfl | rfl | rfl | rfl | rfl
  · have hm2 : day ≤ max (day + p) 100 ∧ max (day + p) 100 ≤ day + 100 := by omega
    go_wp2_with fail
    with_reducible refine Calls.mono (HIS.out (max (day + p) 100) id a am _ HD8.out.reg) ?_
    rintro e w9 ⟨x', y', z', rfl, hr9, hb9⟩
    obtain ⟨p0, q0, u0, p1, q1, u1, p2, q2, u2, rfl, rfl, rfl⟩ := hr9.slices
    have HD9 := Lib.hid (HD8.out.below hb9)
    have HX9 := Lib.hid (obj_below HX8.out hb9)
    obtain ⟨er, her⟩ : ∃ er, er = addE r ⟨0, max (day + p) 100, 1, id, 0, a, am⟩ := ⟨_, rfl⟩
    have HTR9 : Hid (Tried r day (max (day + p) 100) (.slice p0 q0 u0) (.slice p1 q1 u1) (.slice p2 q2 u2) er w9) := Lib.hid ⟨_, _, her, rfl, Or.inl ⟨rfl, rfl⟩, rfl, hr9⟩
    rw [← her]
    clear hr9 hb9 her HD8 HX8 r0 r1 r2
    have hX9 := HX9.out
    have x0 := obj_cell hX9 0
    have x1 := obj_cell hX9 1
    have x2 := obj_cell hX9 2
    have xf0 := obj_free hX9 0
    have xf1 := obj_free hX9 1
    have xf2 := obj_free hX9 2
    simp at x0 x1 x2
    have hx9 := hX9
    clear hX9
    obtain ⟨w10, hw10⟩ : ∃ w10, w10 = put3 w9 bX (.slice p0 q0 u0) (.slice p1 q1 u1) (.slice p2 q2 u2) := ⟨_, rfl⟩
    have HD10 : Hid (DealI w tb (.slice a0 n0 c0) (.slice a1 n1 c1) (.slice a2 n2 c2) r w10) := Lib.hid (by rw [hw10]; exact HD9.out.put hx9 HNX.out)
    have HX10 : Hid (w10.heap[bX]? = some (.cells #[.slice p0 q0 u0, .slice p1 q1 u1, .slice p2 q2 u2] 29 (0, 0))) := Lib.hid (by rw [hw10]; exact put3_at hx9 rfl _ _ _)
    have HT10 : Hid (Tried r day (max (day + p) 100) (.slice p0 q0 u0) (.slice p1 q1 u1) (.slice p2 q2 u2) er w10) := Lib.hid (by rw [hw10]; exact HTR9.out.put hx9)
    unfold put3 at hw10
    go_upto_region 15 with fail
    rw [← hw10]
    clear hw10 hx9 x0 x1 x2 xf0 xf1 xf2 HTR9 HD9 HX9
    have hbox := HD10.out.box
    have hX10 := HX10.out
    have hout := HD10.out.out
    have r0 := obj_cell hbox 0
    have r1 := obj_cell hbox 1
    have r2 := obj_cell hbox 2
    simp at r0 r1 r2
    have x0 := obj_cell hX10 0
    have x1 := obj_cell hX10 1
    have x2 := obj_cell hX10 2
    simp at x0 x1 x2
    have o0 := obj_cell hout 0
    have o1 := obj_cell hout 1
    have o2 := obj_cell hout 2
    have of0 := obj_free hout 0
    have of1 := obj_free hout 1
    have of2 := obj_free hout 2
    simp at o0 o1 o2
    clear hbox hX10 hout
    by_cases he : er = 0
    · subst he
      obtain ⟨r', hdl, hrr⟩ := HT10.out.dealt (by omega) (by omega)
      have HDL := Lib.hid hdl
      have HRR := Lib.hid hrr
      clear hdl hrr
      go_wp2
      exact ret3 HD10.out.out rfl _ _ _ (fun F hF => by
        have q0 := obj_cell hF 0
        have q1 := obj_cell hF 1
        have q2 := obj_cell hF 2
        simp [results, Try.results45, go_sem, q0, q1, q2]) rfl (deal_post HDL.out (HRR.out.keepR HD10.out.out (put3_grown _ _ _ _ _)) (HD10.out.si.put3 HD10.out.si.lt))
    · have hen : (er != 0) = true := by simpa using he
      go_wp2
      exact ret3 HD10.out.out rfl _ _ _ (fun F hF => by
        have q0 := obj_cell hF 0
        have q1 := obj_cell hF 1
        have q2 := obj_cell hF 2
        simp [results, Try.results45, go_sem, q0, q1, q2]) rfl (deal_post Dealt.none (HD10.out.reg.keepR HD10.out.out (put3_grown _ _ _ _ _)) (HD10.out.si.put3 HD10.out.si.lt))
  · have hm2 : day ≤ max (day + p) 100 ∧ max (day + p) 100 ≤ day + 100 := by omega
    go_wp2_with fail
    with_reducible refine Calls.mono (HIS.out (max (day + p) 100) id a am _ HD8.out.reg) ?_
    rintro e w9 ⟨x', y', z', rfl, hr9, hb9⟩
    obtain ⟨p0, q0, u0, p1, q1, u1, p2, q2, u2, rfl, rfl, rfl⟩ := hr9.slices
    have HD9 := Lib.hid (HD8.out.below hb9)
    have HX9 := Lib.hid (obj_below HX8.out hb9)
    obtain ⟨er, her⟩ : ∃ er, er = addE r ⟨0, max (day + p) 100, 1, id, 0, a, am⟩ := ⟨_, rfl⟩
    have HTR9 : Hid (Tried r day (max (day + p) 100) (.slice p0 q0 u0) (.slice p1 q1 u1) (.slice p2 q2 u2) er w9) := Lib.hid ⟨_, _, her, rfl, Or.inl ⟨rfl, rfl⟩, rfl, hr9⟩
    rw [← her]
    clear hr9 hb9 her HD8 HX8 r0 r1 r2
    have hX9 := HX9.out
    have x0 := obj_cell hX9 0
    have x1 := obj_cell hX9 1
    have x2 := obj_cell hX9 2
    have xf0 := obj_free hX9 0
    have xf1 := obj_free hX9 1
    have xf2 := obj_free hX9 2
    simp at x0 x1 x2
    have hx9 := hX9
    clear hX9
    obtain ⟨w10, hw10⟩ : ∃ w10, w10 = put3 w9 bX (.slice p0 q0 u0) (.slice p1 q1 u1) (.slice p2 q2 u2) := ⟨_, rfl⟩
    have HD10 : Hid (DealI w tb (.slice a0 n0 c0) (.slice a1 n1 c1) (.slice a2 n2 c2) r w10) := Lib.hid (by rw [hw10]; exact HD9.out.put hx9 HNX.out)
    have HX10 : Hid (w10.heap[bX]? = some (.cells #[.slice p0 q0 u0, .slice p1 q1 u1, .slice p2 q2 u2] 29 (0, 0))) := Lib.hid (by rw [hw10]; exact put3_at hx9 rfl _ _ _)
    have HT10 : Hid (Tried r day (max (day + p) 100) (.slice p0 q0 u0) (.slice p1 q1 u1) (.slice p2 q2 u2) er w10) := Lib.hid (by rw [hw10]; exact HTR9.out.put hx9)
    unfold put3 at hw10
    go_upto_region 15 with fail
    rw [← hw10]
    clear hw10 hx9 x0 x1 x2 xf0 xf1 xf2 HTR9 HD9 HX9
    have hbox := HD10.out.box
    have hX10 := HX10.out
    have hout := HD10.out.out
    have r0 := obj_cell hbox 0
    have r1 := obj_cell hbox 1
    have r2 := obj_cell hbox 2
    simp at r0 r1 r2
    have x0 := obj_cell hX10 0
    have x1 := obj_cell hX10 1
    have x2 := obj_cell hX10 2
    simp at x0 x1 x2
    have o0 := obj_cell hout 0
    have o1 := obj_cell hout 1
    have o2 := obj_cell hout 2
    have of0 := obj_free hout 0
    have of1 := obj_free hout 1
    have of2 := obj_free hout 2
    simp at o0 o1 o2
    clear hbox hX10 hout
    by_cases he : er = 0
    · subst he
      obtain ⟨r', hdl, hrr⟩ := HT10.out.dealt (by omega) (by omega)
      have HDL := Lib.hid hdl
      have HRR := Lib.hid hrr
      clear hdl hrr
      go_wp2
      exact ret3 HD10.out.out rfl _ _ _ (fun F hF => by
        have q0 := obj_cell hF 0
        have q1 := obj_cell hF 1
        have q2 := obj_cell hF 2
        simp [results, Try.results45, go_sem, q0, q1, q2]) rfl (deal_post HDL.out (HRR.out.keepR HD10.out.out (put3_grown _ _ _ _ _)) (HD10.out.si.put3 HD10.out.si.lt))
    · have hen : (er != 0) = true := by simpa using he
      go_wp2
      exact ret3 HD10.out.out rfl _ _ _ (fun F hF => by
        have q0 := obj_cell hF 0
        have q1 := obj_cell hF 1
        have q2 := obj_cell hF 2
        simp [results, Try.results45, go_sem, q0, q1, q2]) rfl (deal_post Dealt.none (HD10.out.reg.keepR HD10.out.out (put3_grown _ _ _ _ _)) (HD10.out.si.put3 HD10.out.si.lt))
  · have hm2 : day ≤ max (day + p) 100 ∧ max (day + p) 100 ≤ day + 100 := by omega
    go_wp2_with fail
    with_reducible refine Calls.mono (HIS.out (max (day + p) 100) id a am _ HD8.out.reg) ?_
    rintro e w9 ⟨x', y', z', rfl, hr9, hb9⟩
    obtain ⟨p0, q0, u0, p1, q1, u1, p2, q2, u2, rfl, rfl, rfl⟩ := hr9.slices
    have HD9 := Lib.hid (HD8.out.below hb9)
    have HX9 := Lib.hid (obj_below HX8.out hb9)
    obtain ⟨er, her⟩ : ∃ er, er = addE r ⟨0, max (day + p) 100, 1, id, 0, a, am⟩ := ⟨_, rfl⟩
    have HTR9 : Hid (Tried r day (max (day + p) 100) (.slice p0 q0 u0) (.slice p1 q1 u1) (.slice p2 q2 u2) er w9) := Lib.hid ⟨_, _, her, rfl, Or.inl ⟨rfl, rfl⟩, rfl, hr9⟩
    rw [← her]
    clear hr9 hb9 her HD8 HX8 r0 r1 r2
    have hX9 := HX9.out
    have x0 := obj_cell hX9 0
    have x1 := obj_cell hX9 1
    have x2 := obj_cell hX9 2
    have xf0 := obj_free hX9 0
    have xf1 := obj_free hX9 1
    have xf2 := obj_free hX9 2
    simp at x0 x1 x2
    have hx9 := hX9
    clear hX9
    obtain ⟨w10, hw10⟩ : ∃ w10, w10 = put3 w9 bX (.slice p0 q0 u0) (.slice p1 q1 u1) (.slice p2 q2 u2) := ⟨_, rfl⟩
    have HD10 : Hid (DealI w tb (.slice a0 n0 c0) (.slice a1 n1 c1) (.slice a2 n2 c2) r w10) := Lib.hid (by rw [hw10]; exact HD9.out.put hx9 HNX.out)
    have HX10 : Hid (w10.heap[bX]? = some (.cells #[.slice p0 q0 u0, .slice p1 q1 u1, .slice p2 q2 u2] 29 (0, 0))) := Lib.hid (by rw [hw10]; exact put3_at hx9 rfl _ _ _)
    have HT10 : Hid (Tried r day (max (day + p) 100) (.slice p0 q0 u0) (.slice p1 q1 u1) (.slice p2 q2 u2) er w10) := Lib.hid (by rw [hw10]; exact HTR9.out.put hx9)
    unfold put3 at hw10
    go_upto_region 15 with fail
    rw [← hw10]
    clear hw10 hx9 x0 x1 x2 xf0 xf1 xf2 HTR9 HD9 HX9
    have hbox := HD10.out.box
    have hX10 := HX10.out
    have hout := HD10.out.out
    have r0 := obj_cell hbox 0
    have r1 := obj_cell hbox 1
    have r2 := obj_cell hbox 2
    simp at r0 r1 r2
    have x0 := obj_cell hX10 0
    have x1 := obj_cell hX10 1
    have x2 := obj_cell hX10 2
    simp at x0 x1 x2
    have o0 := obj_cell hout 0
    have o1 := obj_cell hout 1
    have o2 := obj_cell hout 2
    have of0 := obj_free hout 0
    have of1 := obj_free hout 1
    have of2 := obj_free hout 2
    simp at o0 o1 o2
    clear hbox hX10 hout
    by_cases he : er = 0
    · subst he
      obtain ⟨r', hdl, hrr⟩ := HT10.out.dealt (by omega) (by omega)
      have HDL := Lib.hid hdl
      have HRR := Lib.hid hrr
      clear hdl hrr
      go_wp2
      exact ret3 HD10.out.out rfl _ _ _ (fun F hF => by
        have q0 := obj_cell hF 0
        have q1 := obj_cell hF 1
        have q2 := obj_cell hF 2
        simp [results, Try.results45, go_sem, q0, q1, q2]) rfl (deal_post HDL.out (HRR.out.keepR HD10.out.out (put3_grown _ _ _ _ _)) (HD10.out.si.put3 HD10.out.si.lt))
    · have hen : (er != 0) = true := by simpa using he
      go_wp2
      exact ret3 HD10.out.out rfl _ _ _ (fun F hF => by
        have q0 := obj_cell hF 0
        have q1 := obj_cell hF 1
        have q2 := obj_cell hF 2
        simp [results, Try.results45, go_sem, q0, q1, q2]) rfl (deal_post Dealt.none (HD10.out.reg.keepR HD10.out.out (put3_grown _ _ _ _ _)) (HD10.out.si.put3 HD10.out.si.lt))
  · go_wp2_with fail
    with_reducible refine Calls.mono (HTR.out (day + p) id a b am _ HD8.out.reg) ?_
    rintro e w9 ⟨x', y', z', rfl, hr9, hb9⟩
    obtain ⟨p0, q0, u0, p1, q1, u1, p2, q2, u2, rfl, rfl, rfl⟩ := hr9.slices
    have HD9 := Lib.hid (HD8.out.below hb9)
    have HX9 := Lib.hid (obj_below HX8.out hb9)
    obtain ⟨er, her⟩ : ∃ er, er = addE r ⟨0, day + p, 2, id, a, b, am⟩ := ⟨_, rfl⟩
    have HTR9 : Hid (Tried r day (day + p) (.slice p0 q0 u0) (.slice p1 q1 u1) (.slice p2 q2 u2) er w9) := Lib.hid ⟨_, _, her, rfl, Or.inr (Or.inl rfl), rfl, hr9⟩
    rw [← her]
    clear hr9 hb9 her HD8 HX8 r0 r1 r2
    have hX9 := HX9.out
    have x0 := obj_cell hX9 0
    have x1 := obj_cell hX9 1
    have x2 := obj_cell hX9 2
    have xf0 := obj_free hX9 0
    have xf1 := obj_free hX9 1
    have xf2 := obj_free hX9 2
    simp at x0 x1 x2
    have hx9 := hX9
    clear hX9
    obtain ⟨w10, hw10⟩ : ∃ w10, w10 = put3 w9 bX (.slice p0 q0 u0) (.slice p1 q1 u1) (.slice p2 q2 u2) := ⟨_, rfl⟩
    have HD10 : Hid (DealI w tb (.slice a0 n0 c0) (.slice a1 n1 c1) (.slice a2 n2 c2) r w10) := Lib.hid (by rw [hw10]; exact HD9.out.put hx9 HNX.out)
    have HX10 : Hid (w10.heap[bX]? = some (.cells #[.slice p0 q0 u0, .slice p1 q1 u1, .slice p2 q2 u2] 29 (0, 0))) := Lib.hid (by rw [hw10]; exact put3_at hx9 rfl _ _ _)
    have HT10 : Hid (Tried r day (day + p) (.slice p0 q0 u0) (.slice p1 q1 u1) (.slice p2 q2 u2) er w10) := Lib.hid (by rw [hw10]; exact HTR9.out.put hx9)
    unfold put3 at hw10
    go_upto_region 15 with fail
    rw [← hw10]
    clear hw10 hx9 x0 x1 x2 xf0 xf1 xf2 HTR9 HD9 HX9
    have hbox := HD10.out.box
    have hX10 := HX10.out
    have hout := HD10.out.out
    have r0 := obj_cell hbox 0
    have r1 := obj_cell hbox 1
    have r2 := obj_cell hbox 2
    simp at r0 r1 r2
    have x0 := obj_cell hX10 0
    have x1 := obj_cell hX10 1
    have x2 := obj_cell hX10 2
    simp at x0 x1 x2
    have o0 := obj_cell hout 0
    have o1 := obj_cell hout 1
    have o2 := obj_cell hout 2
    have of0 := obj_free hout 0
    have of1 := obj_free hout 1
    have of2 := obj_free hout 2
    simp at o0 o1 o2
    clear hbox hX10 hout
    by_cases he : er = 0
    · subst he
      obtain ⟨r', hdl, hrr⟩ := HT10.out.dealt (by omega) (by omega)
      have HDL := Lib.hid hdl
      have HRR := Lib.hid hrr
      clear hdl hrr
      go_wp2
      exact ret3 HD10.out.out rfl _ _ _ (fun F hF => by
        have q0 := obj_cell hF 0
        have q1 := obj_cell hF 1
        have q2 := obj_cell hF 2
        simp [results, Try.results45, go_sem, q0, q1, q2]) rfl (deal_post HDL.out (HRR.out.keepR HD10.out.out (put3_grown _ _ _ _ _)) (HD10.out.si.put3 HD10.out.si.lt))
    · have hen : (er != 0) = true := by simpa using he
      go_wp2
      exact ret3 HD10.out.out rfl _ _ _ (fun F hF => by
        have q0 := obj_cell hF 0
        have q1 := obj_cell hF 1
        have q2 := obj_cell hF 2
        simp [results, Try.results45, go_sem, q0, q1, q2]) rfl (deal_post Dealt.none (HD10.out.reg.keepR HD10.out.out (put3_grown _ _ _ _ _)) (HD10.out.si.put3 HD10.out.si.lt))
  · go_wp2_with fail
    with_reducible refine Calls.mono (HTR.out (day + p) id a b am _ HD8.out.reg) ?_
    rintro e w9 ⟨x', y', z', rfl, hr9, hb9⟩
    obtain ⟨p0, q0, u0, p1, q1, u1, p2, q2, u2, rfl, rfl, rfl⟩ := hr9.slices
    have HD9 := Lib.hid (HD8.out.below hb9)
    have HX9 := Lib.hid (obj_below HX8.out hb9)
    obtain ⟨er, her⟩ : ∃ er, er = addE r ⟨0, day + p, 2, id, a, b, am⟩ := ⟨_, rfl⟩
    have HTR9 : Hid (Tried r day (day + p) (.slice p0 q0 u0) (.slice p1 q1 u1) (.slice p2 q2 u2) er w9) := Lib.hid ⟨_, _, her, rfl, Or.inr (Or.inl rfl), rfl, hr9⟩
    rw [← her]
    clear hr9 hb9 her HD8 HX8 r0 r1 r2
    have hX9 := HX9.out
    have x0 := obj_cell hX9 0
    have x1 := obj_cell hX9 1
    have x2 := obj_cell hX9 2
    have xf0 := obj_free hX9 0
    have xf1 := obj_free hX9 1
    have xf2 := obj_free hX9 2
    simp at x0 x1 x2
    have hx9 := hX9
    clear hX9
    obtain ⟨w10, hw10⟩ : ∃ w10, w10 = put3 w9 bX (.slice p0 q0 u0) (.slice p1 q1 u1) (.slice p2 q2 u2) := ⟨_, rfl⟩
    have HD10 : Hid (DealI w tb (.slice a0 n0 c0) (.slice a1 n1 c1) (.slice a2 n2 c2) r w10) := Lib.hid (by rw [hw10]; exact HD9.out.put hx9 HNX.out)
    have HX10 : Hid (w10.heap[bX]? = some (.cells #[.slice p0 q0 u0, .slice p1 q1 u1, .slice p2 q2 u2] 29 (0, 0))) := Lib.hid (by rw [hw10]; exact put3_at hx9 rfl _ _ _)
    have HT10 : Hid (Tried r day (day + p) (.slice p0 q0 u0) (.slice p1 q1 u1) (.slice p2 q2 u2) er w10) := Lib.hid (by rw [hw10]; exact HTR9.out.put hx9)
    unfold put3 at hw10
    go_upto_region 15 with fail
    rw [← hw10]
    clear hw10 hx9 x0 x1 x2 xf0 xf1 xf2 HTR9 HD9 HX9
    have hbox := HD10.out.box
    have hX10 := HX10.out
    have hout := HD10.out.out
    have r0 := obj_cell hbox 0
    have r1 := obj_cell hbox 1
    have r2 := obj_cell hbox 2
    simp at r0 r1 r2
    have x0 := obj_cell hX10 0
    have x1 := obj_cell hX10 1
    have x2 := obj_cell hX10 2
    simp at x0 x1 x2
    have o0 := obj_cell hout 0
    have o1 := obj_cell hout 1
    have o2 := obj_cell hout 2
    have of0 := obj_free hout 0
    have of1 := obj_free hout 1
    have of2 := obj_free hout 2
    simp at o0 o1 o2
    clear hbox hX10 hout
    by_cases he : er = 0
    · subst he
      obtain ⟨r', hdl, hrr⟩ := HT10.out.dealt (by omega) (by omega)
      have HDL := Lib.hid hdl
      have HRR := Lib.hid hrr
      clear hdl hrr
      go_wp2
      exact ret3 HD10.out.out rfl _ _ _ (fun F hF => by
        have q0 := obj_cell hF 0
        have q1 := obj_cell hF 1
        have q2 := obj_cell hF 2
        simp [results, Try.results45, go_sem, q0, q1, q2]) rfl (deal_post HDL.out (HRR.out.keepR HD10.out.out (put3_grown _ _ _ _ _)) (HD10.out.si.put3 HD10.out.si.lt))
    · have hen : (er != 0) = true := by simpa using he
      go_wp2
      exact ret3 HD10.out.out rfl _ _ _ (fun F hF => by
        have q0 := obj_cell hF 0
        have q1 := obj_cell hF 1
        have q2 := obj_cell hF 2
        simp [results, Try.results45, go_sem, q0, q1, q2]) rfl (deal_post Dealt.none (HD10.out.reg.keepR HD10.out.out (put3_grown _ _ _ _ _)) (HD10.out.si.put3 HD10.out.si.lt))
  · go_wp2_with fail
    with_reducible refine Calls.mono (HRE.out (day + p) id a am _ HD8.out.reg) ?_
    rintro e w9 ⟨x', y', z', rfl, hr9, hb9⟩
    obtain ⟨p0, q0, u0, p1, q1, u1, p2, q2, u2, rfl, rfl, rfl⟩ := hr9.slices
    have HD9 := Lib.hid (HD8.out.below hb9)
    have HX9 := Lib.hid (obj_below HX8.out hb9)
    obtain ⟨er, her⟩ : ∃ er, er = addE r ⟨0, day + p, 3, id, a, 0, am⟩ := ⟨_, rfl⟩
    have HTR9 : Hid (Tried r day (day + p) (.slice p0 q0 u0) (.slice p1 q1 u1) (.slice p2 q2 u2) er w9) := Lib.hid ⟨_, _, her, rfl, Or.inr (Or.inr ⟨rfl, rfl⟩), rfl, hr9⟩
    rw [← her]
    clear hr9 hb9 her HD8 HX8 r0 r1 r2
    have hX9 := HX9.out
    have x0 := obj_cell hX9 0
    have x1 := obj_cell hX9 1
    have x2 := obj_cell hX9 2
    have xf0 := obj_free hX9 0
    have xf1 := obj_free hX9 1
    have xf2 := obj_free hX9 2
    simp at x0 x1 x2
    have hx9 := hX9
    clear hX9
    obtain ⟨w10, hw10⟩ : ∃ w10, w10 = put3 w9 bX (.slice p0 q0 u0) (.slice p1 q1 u1) (.slice p2 q2 u2) := ⟨_, rfl⟩
    have HD10 : Hid (DealI w tb (.slice a0 n0 c0) (.slice a1 n1 c1) (.slice a2 n2 c2) r w10) := Lib.hid (by rw [hw10]; exact HD9.out.put hx9 HNX.out)
    have HX10 : Hid (w10.heap[bX]? = some (.cells #[.slice p0 q0 u0, .slice p1 q1 u1, .slice p2 q2 u2] 29 (0, 0))) := Lib.hid (by rw [hw10]; exact put3_at hx9 rfl _ _ _)
    have HT10 : Hid (Tried r day (day + p) (.slice p0 q0 u0) (.slice p1 q1 u1) (.slice p2 q2 u2) er w10) := Lib.hid (by rw [hw10]; exact HTR9.out.put hx9)
    unfold put3 at hw10
    go_upto_region 15 with fail
    rw [← hw10]
    clear hw10 hx9 x0 x1 x2 xf0 xf1 xf2 HTR9 HD9 HX9
    have hbox := HD10.out.box
    have hX10 := HX10.out
    have hout := HD10.out.out
    have r0 := obj_cell hbox 0
    have r1 := obj_cell hbox 1
    have r2 := obj_cell hbox 2
    simp at r0 r1 r2
    have x0 := obj_cell hX10 0
    have x1 := obj_cell hX10 1
    have x2 := obj_cell hX10 2
    simp at x0 x1 x2
    have o0 := obj_cell hout 0
    have o1 := obj_cell hout 1
    have o2 := obj_cell hout 2
    have of0 := obj_free hout 0
    have of1 := obj_free hout 1
    have of2 := obj_free hout 2
    simp at o0 o1 o2
    clear hbox hX10 hout
    by_cases he : er = 0
    · subst he
      obtain ⟨r', hdl, hrr⟩ := HT10.out.dealt (by omega) (by omega)
      have HDL := Lib.hid hdl
      have HRR := Lib.hid hrr
      clear hdl hrr
      go_wp2
      exact ret3 HD10.out.out rfl _ _ _ (fun F hF => by
        have q0 := obj_cell hF 0
        have q1 := obj_cell hF 1
        have q2 := obj_cell hF 2
        simp [results, Try.results45, go_sem, q0, q1, q2]) rfl (deal_post HDL.out (HRR.out.keepR HD10.out.out (put3_grown _ _ _ _ _)) (HD10.out.si.put3 HD10.out.si.lt))
    · have hen : (er != 0) = true := by simpa using he
      go_wp2
      exact ret3 HD10.out.out rfl _ _ _ (fun F hF => by
        have q0 := obj_cell hF 0
        have q1 := obj_cell hF 1
        have q2 := obj_cell hF 2
        simp [results, Try.results45, go_sem, q0, q1, q2]) rfl (deal_post Dealt.none (HD10.out.reg.keepR HD10.out.out (put3_grown _ _ _ _ _)) (HD10.out.si.put3 HD10.out.si.lt))

end Go.Proofs.Ytblidmkkbcobgaa
