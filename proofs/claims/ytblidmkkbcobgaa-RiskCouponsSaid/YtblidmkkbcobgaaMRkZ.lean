/- The interest of a projection that ends ahead of the first maturity is just the coupons of its years: for every tape. -/
import Derived.Test.YtblidmkkbcobgaaMRkS
import Derived.Test.YtblidmkkbcobgaaMRkX
import Derived.Test.YtblidmkkbcobgaaMRkY
import Derived.Test.YtblidmkkbcobgaaMRoK
import Derived.Test.YtblidmkkbcobgaaMRegInv
set_option linter.unusedSimpArgs false
set_option linter.unusedVariables false
set_option linter.unusedSimpArgs false
set_option linter.unusedVariables false
namespace Go.Proofs.Ytblidmkkbcobgaa
open Go.RowKit Go.Lib Go.Proofs

/-- The register with the issue. -/
def GN (p q : Int) (x y z : Value) (W : World) : Prop := ∃ am : Int, (1 ≤ am ∧ am ≤ 900000) ∧ RegAt W x y z (gR2 p q am)
theorem GN.below {p q : Int} {x y z : Value} {A B : World} (h : GN p q x y z A) (hb : Below A.heap.size A B) : GN p q x y z B := by obtain ⟨a, h1, h2⟩ := h; exact ⟨a, h1, h2.below hb⟩
theorem GN.turn {p q : Int} {x y z : Value} {A B : World} {tb : Nat} (h : GN p q x y z A) (hs : SrcAt A tb) (hg : A.grownBy B (some tb)) : GN p q x y z B := by obtain ⟨a, h1, h2⟩ := h; exact ⟨a, h1, h2.turn hs hg⟩
theorem GN.keep {p q : Int} {x y z : Value} {A B : World} {b0 : Nat} (h : GN p q x y z A) (hl : Lone A b0) (hg : A.grownBy B (some b0)) : GN p q x y z B := by obtain ⟨a, h1, h2⟩ := h; exact ⟨a, h1, h2.keepL hl hg⟩
def GnI (w1 : World) (tb bR bX : Nat) (p q : Int) (x y z : Value) (W : World) : Prop := ∃ am : Int, (1 ≤ am ∧ am ≤ 900000) ∧ RgI w1 tb bR x y z (gR2 p q am) W ∧ W.heap[bX]? = some (.cells #[.int .i64 1, .int .i64 1, .int .i64 0, .int .i64 1800, .int .i64 p, .int .i64 q, .bool false] 55 (0, 0))
theorem pick_new (tb : Nat) (l : List Int) (n : Nat) (w : World) (cs : Array Value) (h : SrcAt w tb) (hlt : tb < w.heap.size) (hn : l.length = n) (h0 : 0 < n) (h1 : n ≤ 1000) (hc : cs = (cellsI l).toArray) :
    Calls Try.prog 24 #[.pointer (some ⟨tb, 0, none⟩), .slice (some ⟨w.heap.size, 0, none⟩) n n] (w.alloc (.cells cs 3)) (SPickPost tb l (w.alloc (.cells cs 3))) := by
  subst hn
  exact sPick_any tb w.heap.size l.length l _ (h.below (below_alloc _ _)) hlt (by simp) h0 h1 fun i hi => by
    rw [obj_cell (heap_alloc_new w _), hc]
    simp [cellsI, List.getD, hi]
theorem z4_ok : RatesOk [100, 200, 300, 400] := fun q hq => by simp at hq; omega

set_option maxRecDepth 100000 in
set_option maxHeartbeats 16000000 in
theorem ricoupons_any (v : Value) (l : Nat) (w : World) (hi : IntsAt w v l w.heap.size) (hn : l ≤ 9223372036854775807) :
    Calls Try.prog 6 #[v] w fun e w' => e = .returned (.bool true) ∧ Below w.heap.size w w' := by
  have HNEW := Lib.hid (sNew_any v l w hi hn)
  have HSN := Lib.hid sane39_any
  clear hi hn
  go_enter Try.func6, Try.ntmps6
  go_wp2_with fail
  refine (HNEW.out).mono ?_
  rintro e w1 ⟨rfl, t1, b1⟩
  obtain ⟨tb, htb⟩ : ∃ tb, tb = w.heap.size := ⟨_, rfl⟩
  rw [← htb] at t1 ⊢
  have HFIN : Hid (∀ W, SI w1 tb W → Below w.heap.size w W) := Lib.hid fun W hW => b1.grown hW.old b1.size (fun q e => by injection e with e; omega)
  have hs1 := si_start t1
  clear b1 HNEW htb
  obtain ⟨bR, hbR⟩ : ∃ b, b = w1.heap.size := ⟨_, rfl⟩
  obtain ⟨w2, hw2⟩ : ∃ W, W = w1.alloc (.cells #[.slice none 0 0, .slice none 0 0, .slice none 0 0] 29) := ⟨_, rfl⟩
  have HNE : Hid (tb < bR ∧ w1.heap.size ≤ bR) := Lib.hid ⟨by have := hs1.lt; omega, by omega⟩
  have HR2 : Hid (RgI w1 tb bR (.slice none 0 0) (.slice none 0 0) (.slice none 0 0) Reg.none w2) := Lib.hid (by
    rw [hw2, hbR]
    exact ⟨hs1.alloc _, heap_alloc_new _ _, none_at _, hs1.lt, Nat.le_refl _⟩)
  clear hs1 t1
  go_upto_region 3 with fail
  rw [← hw2, ← hbR]
  clear hw2 hbR
  go_wp2_with fail
  with_reducible refine Calls.mono (pick_new tb [1000, 2500, 5000] 3 w2 _ HR2.out.si.src HR2.out.si.src.lt rfl (by omega) (by omega) rfl) ?_
  rintro e w4 ⟨p, rfl, hp, hs4, hg4⟩
  have HR4 := Lib.hid ((HR2.out.below (below_alloc w2 _)).turn hs4 hg4)
  clear hs4 hg4 HR2
  go_wp2_with fail
  with_reducible refine Calls.mono (pick_new tb [1, 3, 6, 12] 4 w4 _ HR4.out.si.src HR4.out.si.src.lt rfl (by omega) (by omega) rfl) ?_
  rintro e w6 ⟨q, rfl, hq, hs6, hg6⟩
  have HR6 := Lib.hid ((HR4.out.below (below_alloc w4 _)).turn hs6 hg6)
  have HPE : Hid (PeOk p q) := Lib.hid ⟨by simpa using hp, by simpa using hq⟩
  clear hs6 hg6 HR4 hp hq
  obtain ⟨bX, hbX⟩ : ∃ b, b = w6.heap.size := ⟨_, rfl⟩
  obtain ⟨w7, hw7⟩ : ∃ W, W = w6.alloc (.cells #[.int .i64 1, .int .i64 1, .int .i64 0, .int .i64 1800, .int .i64 p, .int .i64 q, .bool false] 55) := ⟨_, rfl⟩
  have HR7 : Hid (RgI w1 tb bR (.slice none 0 0) (.slice none 0 0) (.slice none 0 0) Reg.none w7) := Lib.hid (by rw [hw7]; exact HR6.out.below (below_alloc _ _))
  have HX7 : Hid (w7.heap[bX]? = some (.cells #[.int .i64 1, .int .i64 1, .int .i64 0, .int .i64 1800, .int .i64 p, .int .i64 q, .bool false] 55 (0, 0))) := Lib.hid (by rw [hw7, hbX]; exact heap_alloc_new _ _)
  have HNX : Hid (tb ≠ bX ∧ bR ≠ bX) := Lib.hid ⟨by have := HR6.out.si.src.lt; omega, by have := obj_lt HR6.out.box; omega⟩
  go_upto_region 4 with fail
  rw [← hw7, ← hbX]
  clear hw7 hbX HR6
  have hA := HR7.out.box
  have s0 := obj_cell hA 0
  have s1 := obj_cell hA 1
  have s2 := obj_cell hA 2
  simp at s0 s1 s2
  clear hA
  have hA := HX7.out
  have x0 := obj_cell hA 0
  have x1 := obj_cell hA 1
  have x2 := obj_cell hA 2
  have x3 := obj_cell hA 3
  have x4 := obj_cell hA 4
  have x5 := obj_cell hA 5
  have x6 := obj_cell hA 6
  simp at x0 x1 x2 x3 x4 x5 x6
  clear hA
  have HAD : Hid (Calls Try.prog 25 #[.agg #[.slice none 0 0, .slice none 0 0, .slice none 0 0], .agg #[.int .i64 1, .int .i64 1, .int .i64 0, .int .i64 1800, .int .i64 p, .int .i64 q, .bool false]] w7 fun e w' => ∃ x' y' z', e = .returned (.tuple #[.agg #[x', y', z'], .int .i64 0]) ∧ RegAt w' x' y' z' (gR1 p q) ∧ Below w7.heap.size w7 w') := Lib.hid
    (ryAdd_ok Reg.none (cS p q) _ _ _ w7 ok_none ⟨_, _, cs_ok HPE.out⟩ (fun t ht => by simp [Reg.none] at ht) (by decide) HR7.out.reg)
  go_wp2_with fail
  with_reducible refine Calls.mono HAD.out ?_
  rintro e w8 ⟨x', y', z', rfl, hr', hb'⟩
  have HI8 := Lib.hid (HR7.out.below hb')
  have HX8 := Lib.hid (obj_below HX7.out hb')
  have HR8 := Lib.hid hr'
  obtain ⟨ra, n0, c0, rb, n1, c1, rc, n2, c2, rfl, rfl, rfl⟩ := hr'.slices
  clear hr' hb' HR7 HX7 HAD s0 s1 s2 x0 x1 x2 x3 x4 x5 x6
  have hA := HI8.out.box
  have s0 := obj_cell hA 0
  have s1 := obj_cell hA 1
  have s2 := obj_cell hA 2
  have sf0 := obj_free hA 0
  have sf1 := obj_free hA 1
  have sf2 := obj_free hA 2
  simp at s0 s1 s2
  have HI9 : Hid (RgI w1 tb bR (.slice ra n0 c0) (.slice rb n1 c1) (.slice rc n2 c2) (gR1 p q) (put3 w8 bR (.slice ra n0 c0) (.slice rb n1 c1) (.slice rc n2 c2)) ∧ (put3 w8 bR (.slice ra n0 c0) (.slice rb n1 c1) (.slice rc n2 c2)).heap[bX]? = some (.cells #[.int .i64 1, .int .i64 1, .int .i64 0, .int .i64 1800, .int .i64 p, .int .i64 q, .bool false] 55 (0, 0))) := Lib.hid (by
    have hg := put3_grown w8 bR (.slice ra n0 c0) (.slice rb n1 c1) (.slice rc n2 c2)
    exact ⟨⟨HI8.out.si.grown hg (fun q e => by injection e with e; have := HI8.out.out; omega), put3_at hA rfl _ _ _, HR8.out.keepL (lone_reg hA) hg, HI8.out.ne, HI8.out.out⟩, (hg.block _ (obj_lt HX8.out) (by have := HNX.out.2; simp; omega)).trans HX8.out⟩)
  obtain ⟨w9, hw9⟩ : ∃ W, W = put3 w8 bR (.slice ra n0 c0) (.slice rb n1 c1) (.slice rc n2 c2) := ⟨_, rfl⟩
  rw [← hw9] at HI9
  unfold put3 at hw9
  clear hA HI8 HX8 HR8
  go_upto_region 5 with fail
  rw [← hw9]
  clear hw9 s0 s1 s2 sf0 sf1 sf2
  obtain ⟨I, hI⟩ : ∃ I, I = fun W : World => RgI w1 tb bR (.slice ra n0 c0) (.slice rb n1 c1) (.slice rc n2 c2) (gR1 p q) W ∧ W.heap[bX]? = some (.cells #[.int .i64 1, .int .i64 1, .int .i64 0, .int .i64 1800, .int .i64 p, .int .i64 q, .bool false] 55 (0, 0)) := ⟨_, rfl⟩
  have HIO : Hid (∀ W, I W → RgI w1 tb bR (.slice ra n0 c0) (.slice rb n1 c1) (.slice rc n2 c2) (gR1 p q) W ∧ W.heap[bX]? = some (.cells #[.int .i64 1, .int .i64 1, .int .i64 0, .int .i64 1800, .int .i64 p, .int .i64 q, .bool false] 55 (0, 0))) := Lib.hid fun W hW => by rw [hI] at hW; exact hW
  have HII : Hid (∀ W, RgI w1 tb bR (.slice ra n0 c0) (.slice rb n1 c1) (.slice rc n2 c2) (gR1 p q) W → W.heap[bX]? = some (.cells #[.int .i64 1, .int .i64 1, .int .i64 0, .int .i64 1800, .int .i64 p, .int .i64 q, .bool false] 55 (0, 0)) → I W) := Lib.hid fun W hW h => by rw [hI]; exact ⟨hW, h⟩
  have HI0 : Hid (I w9) := Lib.hid (HII.out _ HI9.out.1 HI9.out.2)
  have HIB : Hid (∀ W W', I W → Below W.heap.size W W' → I W') := Lib.hid fun W W' hW hb => HII.out _ ((HIO.out W hW).1.below hb) (obj_below (HIO.out W hW).2 hb)
  have HID : Hid (∀ W, I W → I W.drew) := Lib.hid fun W hW => HIB.out _ _ hW (Below.refl _ _).drew
  have HBX : Hid (∀ W, I W → W.heap[bR]? = some (.cells #[.slice ra n0 c0, .slice rb n1 c1, .slice rc n2 c2] 29 (0, 0))) := Lib.hid fun W hW => (HIO.out W hW).1.box
  have HCL : Hid (∀ W, I W → ∀ j, W.cell? ⟨bR, j, none⟩ = #[.slice ra n0 c0, .slice rb n1 c1, .slice rc n2 c2][j]?) := Lib.hid fun W hW j => obj_cell (HBX.out W hW) j
  have HGR : Hid (∀ W W', I W → W.grownBy W' (some bR) → SI w1 tb W') := Lib.hid fun W W' hW hg => (HIO.out W hW).1.si.grown hg (fun q e => by injection e with e; have := HNE.out.2; omega)
  have HGX : Hid (∀ W W', I W → W.grownBy W' (some bR) → W'.heap[bX]? = some (.cells #[.int .i64 1, .int .i64 1, .int .i64 0, .int .i64 1800, .int .i64 p, .int .i64 q, .bool false] 55 (0, 0))) := Lib.hid fun W W' hW hg => (hg.block _ (obj_lt (HIO.out W hW).2) (by have := HNX.out.2; simp; omega)).trans (HIO.out W hW).2
  have HRN : Hid (∀ W, I W → Calls Try.prog 27 #[.pointer (some ⟨tb, 0, none⟩), .int .i64 1, .int .i64 900000] W fun e w' => ∃ am : Int, e = .returned (.int .i64 am) ∧ (1 ≤ am ∧ am ≤ 900000) ∧ I w' ∧ (SrcAt W tb ∧ W.grownBy w' (some tb))) := Lib.hid fun W hW => by
    refine (range_in (HIO.out W hW).1.si 1 900000 (by omega) (by omega) (by omega)).mono ?_
    rintro e w' ⟨q, rfl, h1, h2, h3, h4⟩
    exact ⟨q, rfl, ⟨h1, h2⟩, HII.out _ ((HIO.out W hW).1.turn h3.src h4) (obj_turn (HIO.out W hW).2 h4 (by have := HNX.out.1; omega)), (HIO.out W hW).1.si.src, h4⟩
  have HPO : Hid (∀ (am : Int) W, I W → (1 ≤ am ∧ am ≤ 900000) → Calls Try.prog 26 #[.agg #[.slice ra n0 c0, .slice rb n1 c1, .slice rc n2 c2], .int .i64 0, .int .i64 1, .int .i64 1, .int .i64 am] W fun e w' => ∃ (xX : Option Addr) (nX : Nat) (cX : Nat) (yX : Option Addr) (mX : Nat) (dX : Nat) (zX : Option Addr) (kX : Nat) (eX : Nat), e = .returned (.tuple #[.agg #[.slice xX nX cX, .slice yX mX dX, .slice zX kX eX], .int .i64 0]) ∧ GN p q (.slice xX nX cX) (.slice yX mX dX) (.slice zX kX eX) w' ∧ I w' ∧ Below W.heap.size W w') := Lib.hid fun am W hW ham => by
    have h := ryIssue_ok (gR1 p q) _ _ _ 0 1 1 am W (ok_g1 HPE.out) (HIO.out W hW).1.reg
    obtain ⟨h1, h2⟩ := g_issue HPE.out ham
    rw [h1, h2] at h
    refine h.mono ?_
    rintro e w' ⟨x', y', z', rfl, h5, h6⟩
    obtain ⟨xX, nX, cX, yX, mX, dX, zX, kX, eX, rfl, rfl, rfl⟩ := h5.slices
    exact ⟨xX, nX, cX, yX, mX, dX, zX, kX, eX, rfl, ⟨am, ham, h5⟩, HIB.out _ _ hW h6, h6⟩
  have egR := enters_of Try.func27 (by kernel_rfl) rfl
  have egP := enters_of Try.func26 (by kernel_rfl) rfl
  clear hI HII
  obtain ⟨P, hP⟩ : ∃ P : Nat → Value → World → Prop, P = fun j v W => match j with | 0 => (v = .agg #[.slice ra n0 c0, .slice rb n1 c1, .slice rc n2 c2]) | 1 => (v = .pointer (some ⟨tb, 0, none⟩)) | 2 => (∃ am, v = .int .i64 am ∧ (1 ≤ am ∧ am ≤ 900000)) | 3 => (∃ xX nX cX yX mX dX zX kX eX, v = .tuple #[.agg #[.slice xX nX cX, .slice yX mX dX, .slice zX kX eX], .int .i64 0] ∧ GN p q (.slice xX nX cX) (.slice yX mX dX) (.slice zX kX eX) W) | 4 => (∃ xX nX cX yX mX dX zX kX eX, v = .tuple #[.agg #[.slice xX nX cX, .slice yX mX dX, .slice zX kX eX], .int .i64 0] ∧ GN p q (.slice xX nX cX) (.slice yX mX dX) (.slice zX kX eX) W) | 5 => (∃ xX nX cX yX mX dX zX kX eX, v = .agg #[.slice xX nX cX, .slice yX mX dX, .slice zX kX eX] ∧ GN p q (.slice xX nX cX) (.slice yX mX dX) (.slice zX kX eX) W) | 6 => (v = .int .i64 0) | _ => True := ⟨_, rfl⟩
  have HPI0 : Hid (∀ v W, P 0 v W ↔ (v = .agg #[.slice ra n0 c0, .slice rb n1 c1, .slice rc n2 c2])) := Lib.hid fun v W => by rw [hP] <;> exact Iff.rfl
  have HPI1 : Hid (∀ v W, P 1 v W ↔ (v = .pointer (some ⟨tb, 0, none⟩))) := Lib.hid fun v W => by rw [hP] <;> exact Iff.rfl
  have HPI2 : Hid (∀ v W, P 2 v W ↔ (∃ am, v = .int .i64 am ∧ (1 ≤ am ∧ am ≤ 900000))) := Lib.hid fun v W => by rw [hP] <;> exact Iff.rfl
  have HPI3 : Hid (∀ v W, P 3 v W ↔ (∃ xX nX cX yX mX dX zX kX eX, v = .tuple #[.agg #[.slice xX nX cX, .slice yX mX dX, .slice zX kX eX], .int .i64 0] ∧ GN p q (.slice xX nX cX) (.slice yX mX dX) (.slice zX kX eX) W)) := Lib.hid fun v W => by rw [hP] <;> exact Iff.rfl
  have HPI4 : Hid (∀ v W, P 4 v W ↔ (∃ xX nX cX yX mX dX zX kX eX, v = .tuple #[.agg #[.slice xX nX cX, .slice yX mX dX, .slice zX kX eX], .int .i64 0] ∧ GN p q (.slice xX nX cX) (.slice yX mX dX) (.slice zX kX eX) W)) := Lib.hid fun v W => by rw [hP] <;> exact Iff.rfl
  have HPI5 : Hid (∀ v W, P 5 v W ↔ (∃ xX nX cX yX mX dX zX kX eX, v = .agg #[.slice xX nX cX, .slice yX mX dX, .slice zX kX eX] ∧ GN p q (.slice xX nX cX) (.slice yX mX dX) (.slice zX kX eX) W)) := Lib.hid fun v W => by rw [hP] <;> exact Iff.rfl
  have HPI6 : Hid (∀ v W, P 6 v W ↔ (v = .int .i64 0)) := Lib.hid fun v W => by rw [hP] <;> exact Iff.rfl
  have HKP : Hid (∀ (j : Nat) v W W', Below W.heap.size W W' → P j v W → P j v W') := Lib.hid (by
    rw [hP]
    intro j v W W' hb h
    match j, h with
    | 0, h => exact h
    | 1, h => exact h
    | 2, ⟨am, e, s0⟩ => exact ⟨am, e, s0⟩
    | 3, ⟨xX, nX, cX, yX, mX, dX, zX, kX, eX, e, s0⟩ => exact ⟨xX, nX, cX, yX, mX, dX, zX, kX, eX, e, (s0).below hb⟩
    | 4, ⟨xX, nX, cX, yX, mX, dX, zX, kX, eX, e, s0⟩ => exact ⟨xX, nX, cX, yX, mX, dX, zX, kX, eX, e, (s0).below hb⟩
    | 5, ⟨xX, nX, cX, yX, mX, dX, zX, kX, eX, e, s0⟩ => exact ⟨xX, nX, cX, yX, mX, dX, zX, kX, eX, e, (s0).below hb⟩
    | 6, h => exact h
    | 7, _ => trivial
    | j + 8, _ => trivial)
  have HKT : Hid (∀ (j : Nat) v W W', SrcAt W tb → W.grownBy W' (some tb) → P j v W → P j v W') := Lib.hid (by
    rw [hP]
    intro j v W W' hs hg h
    match j, h with
    | 0, h => exact h
    | 1, h => exact h
    | 2, ⟨am, e, s0⟩ => exact ⟨am, e, s0⟩
    | 3, ⟨xX, nX, cX, yX, mX, dX, zX, kX, eX, e, s0⟩ => exact ⟨xX, nX, cX, yX, mX, dX, zX, kX, eX, e, (s0).turn hs hg⟩
    | 4, ⟨xX, nX, cX, yX, mX, dX, zX, kX, eX, e, s0⟩ => exact ⟨xX, nX, cX, yX, mX, dX, zX, kX, eX, e, (s0).turn hs hg⟩
    | 5, ⟨xX, nX, cX, yX, mX, dX, zX, kX, eX, e, s0⟩ => exact ⟨xX, nX, cX, yX, mX, dX, zX, kX, eX, e, (s0).turn hs hg⟩
    | 6, h => exact h
    | 7, _ => trivial
    | j + 8, _ => trivial)
  have HKL : Hid (∀ (j : Nat) v W W' b0, Lone W b0 → W.grownBy W' (some b0) → True → P j v W → P j v W') := Lib.hid (by
    rw [hP]
    intro j v W W' b0 hl hg hke h
    match j, h with
    | 0, h => exact h
    | 1, h => exact h
    | 2, ⟨am, e, s0⟩ => exact ⟨am, e, s0⟩
    | 3, ⟨xX, nX, cX, yX, mX, dX, zX, kX, eX, e, s0⟩ => exact ⟨xX, nX, cX, yX, mX, dX, zX, kX, eX, e, (s0).keep hl hg⟩
    | 4, ⟨xX, nX, cX, yX, mX, dX, zX, kX, eX, e, s0⟩ => exact ⟨xX, nX, cX, yX, mX, dX, zX, kX, eX, e, (s0).keep hl hg⟩
    | 5, ⟨xX, nX, cX, yX, mX, dX, zX, kX, eX, e, s0⟩ => exact ⟨xX, nX, cX, yX, mX, dX, zX, kX, eX, e, (s0).keep hl hg⟩
    | 6, h => exact h
    | 7, _ => trivial
    | j + 8, _ => trivial)
  clear hP
  go_cut [] (fun wx => ∃ (xX : Option Addr) (nX : Nat) (cX : Nat) (yX : Option Addr) (mX : Nat) (dX : Nat) (zX : Option Addr) (kX : Nat) (eX : Nat), Hid (GnI w1 tb bR bX p q (.slice xX nX cX) (.slice yX mX dX) (.slice zX kX eX) wx))
  case first =>
    refine wp_region_store [32, 33, 34, 35, 31, 36, 37] (slotS [32, 33, 34, 35, 31, 36, 37, 9999]) (readsS [32, 33, 34, 35, 31, 36, 37, 9999]) (RP [32, 33, 34, 35, 31, 36, 37, 9999] P) I (fun _ W => ∃ (xX : Option Addr) (nX : Nat) (cX : Nat) (yX : Option Addr) (mX : Nat) (dX : Nat) (zX : Option Addr) (kX : Nat) (eX : Nat), GnI w1 tb bR bX p q (.slice xX nX cX) (.slice yX mX dX) (.slice zX kX eX) W) 7 8 [6] (by decide) (by kernel_rfl) (by kernel_rfl) (by kernel_rfl) (by kernel_rfl) (HID.out _ HI0.out) (fun j f q v W hq h => RP.upd hq h) ?_ ?_ ?_ ?_
    case refine_1 =>
      intro iq hiq hne f W hIW hdep0
      have hiq' : iq < 8 := hiq
      have hdep : ∀ j, j ≠ 7 → depB _ iq j = true → P j (f (slotS [32, 33, 34, 35, 31, 36, 37, 9999] j)) W := hdep0
      clear hdep0
      generalize ha1 : putsL _ [32, 33, 34, 35, 31, 36, 37] f = a1
      match iq, hiq', hne, hdep with
      | 0, _, _, hdep0 =>
        have E4 : a1.tmps[4]?.getD undef = .pointer (some ⟨bR, 0, none⟩) := by rw [← ha1]; exact (putsL_out2 _ _ _ _ (by decide)).trans rfl
        have v0 : W.cell? ⟨bR, 0, none⟩ = some (.slice ra n0 c0) := by simpa using HCL.out W hIW 0
        have v1 : W.cell? ⟨bR, 1, none⟩ = some (.slice rb n1 c1) := by simpa using HCL.out W hIW 1
        have v2 : W.cell? ⟨bR, 2, none⟩ = some (.slice rc n2 c2) := by simpa using HCL.out W hIW 2
        exact wpOp_val rfl rfl (v := .agg #[.slice ra n0 c0, .slice rb n1 c1, .slice rc n2 c2]) (w' := W) (by simp [execOp, go_sem, E4, v0, v1, v2]) ⟨hIW, fun _ h => h, _, by decide, rfl, RP.set ((HPI0.out _ _).2 rfl)⟩
      | 1, _, _, hdep0 =>
        have E3 : a1.tmps[3]?.getD undef = .pointer (some ⟨tb, 0, none⟩) := by rw [← ha1]; exact (putsL_out2 _ _ _ _ (by decide)).trans rfl
        exact wpOp_val rfl rfl (v := .pointer (some ⟨tb, 0, none⟩)) (w' := W) (by simp [execOp, go_sem, E3]) ⟨hIW, fun _ h => h, _, by decide, rfl, RP.set ((HPI1.out _ _).2 rfl)⟩
      | 2, _, _, hdep0 =>
        have hd1 := (HPI1.out _ _).1 (hdep0 1 (by decide) (by kernel_rfl))
        have E33 : a1.tmps[33]?.getD undef = .pointer (some ⟨tb, 0, none⟩) := by rw [← ha1]; exact (putsL_in2 _ _ _ _ (by decide) (show 33 < 96 from by decide)).trans hd1
        refine wpOp_call rfl rfl (n := 27) (vs := #[.pointer (some ⟨tb, 0, none⟩), .int .i64 1, .int .i64 900000]) (by have := egR #[.pointer (some ⟨tb, 0, none⟩), .int .i64 1, .int .i64 900000] W; simp [execOp, E33, resolve, invoke, go_sem] <;> exact this) ((HRN.out W hIW).mono fun e w' hh => (by obtain ⟨am, rfl, p0, hJ', hb'⟩ := hh; exact ⟨_, rfl, (HPI2.out _ _).2 ⟨_, rfl, p0⟩, hJ', hb'⟩ : ∃ v, e = .returned v ∧ (P 2 v w' ∧ I w' ∧ SrcAt W tb ∧ W.grownBy w' (some tb)))) ?_
        rintro v w' ⟨hv, hI', hb'⟩
        exact ⟨hI', fun j h => HKT.out j _ _ _ hb'.1 hb'.2 h, _, by decide, rfl, RP.set hv⟩
      | 3, _, _, hdep0 =>
        have hd0 := (HPI0.out _ _).1 (hdep0 0 (by decide) (by kernel_rfl))
        have hd2 := (HPI2.out _ _).1 (hdep0 2 (by decide) (by kernel_rfl))
        have E32 : a1.tmps[32]?.getD undef = .agg #[.slice ra n0 c0, .slice rb n1 c1, .slice rc n2 c2] := by rw [← ha1]; exact (putsL_in2 _ _ _ _ (by decide) (show 32 < 96 from by decide)).trans hd0
        obtain ⟨am, q2, r2_0⟩ := hd2
        have E34 : a1.tmps[34]?.getD undef = .int .i64 am := by rw [← ha1]; exact (putsL_in2 _ _ _ _ (by decide) (show 34 < 96 from by decide)).trans q2
        refine wpOp_call rfl rfl (n := 26) (vs := #[.agg #[.slice ra n0 c0, .slice rb n1 c1, .slice rc n2 c2], .int .i64 0, .int .i64 1, .int .i64 1, .int .i64 am]) (by have := egP #[.agg #[.slice ra n0 c0, .slice rb n1 c1, .slice rc n2 c2], .int .i64 0, .int .i64 1, .int .i64 1, .int .i64 am] W; simp [execOp, E32, E34, resolve, invoke, go_sem] <;> exact this) ((HPO.out _ W hIW r2_0).mono fun e w' hh => (by obtain ⟨xX, nX, cX, yX, mX, dX, zX, kX, eX, rfl, p0, hJ', hb'⟩ := hh; exact ⟨_, rfl, (HPI3.out _ _).2 ⟨_, _, _, _, _, _, _, _, _, rfl, p0⟩, hJ', hb'⟩ : ∃ v, e = .returned v ∧ (P 3 v w' ∧ I w' ∧ Below W.heap.size W w'))) ?_
        rintro v w' ⟨hv, hI', hb'⟩
        exact ⟨hI', fun j h => HKP.out j _ _ _ hb' h, _, by decide, rfl, RP.set hv⟩
      | 4, _, _, hdep0 =>
        have hd3 := (HPI3.out _ _).1 (hdep0 3 (by decide) (by kernel_rfl))
        obtain ⟨xX, nX, cX, yX, mX, dX, zX, kX, eX, q3, r3_0⟩ := hd3
        have E35 : a1.tmps[35]?.getD undef = .tuple #[.agg #[.slice xX nX cX, .slice yX mX dX, .slice zX kX eX], .int .i64 0] := by rw [← ha1]; exact (putsL_in2 _ _ _ _ (by decide) (show 35 < 96 from by decide)).trans q3
        exact wpOp_val rfl rfl (v := .tuple #[.agg #[.slice xX nX cX, .slice yX mX dX, .slice zX kX eX], .int .i64 0]) (w' := W) (by simp [execOp, go_sem, E35]) ⟨hIW, fun _ h => h, _, by decide, rfl, RP.set ((HPI4.out _ _).2 ⟨_, _, _, _, _, _, _, _, _, rfl, r3_0⟩)⟩
      | 5, _, _, hdep0 =>
        have hd4 := (HPI4.out _ _).1 (hdep0 4 (by decide) (by kernel_rfl))
        obtain ⟨xX, nX, cX, yX, mX, dX, zX, kX, eX, q4, r4_0⟩ := hd4
        have E31 : a1.tmps[31]?.getD undef = .tuple #[.agg #[.slice xX nX cX, .slice yX mX dX, .slice zX kX eX], .int .i64 0] := by rw [← ha1]; exact (putsL_in2 _ _ _ _ (by decide) (show 31 < 96 from by decide)).trans q4
        exact wpOp_val rfl rfl (v := .agg #[.slice xX nX cX, .slice yX mX dX, .slice zX kX eX]) (w' := W) (by simp [execOp, go_sem, E31]) ⟨hIW, fun _ h => h, _, by decide, rfl, RP.set ((HPI5.out _ _).2 ⟨_, _, _, _, _, _, _, _, _, rfl, r4_0⟩)⟩
      | 6, _, _, hdep0 =>
        have hd4 := (HPI4.out _ _).1 (hdep0 4 (by decide) (by kernel_rfl))
        obtain ⟨xX, nX, cX, yX, mX, dX, zX, kX, eX, q4, r4_0⟩ := hd4
        have E31 : a1.tmps[31]?.getD undef = .tuple #[.agg #[.slice xX nX cX, .slice yX mX dX, .slice zX kX eX], .int .i64 0] := by rw [← ha1]; exact (putsL_in2 _ _ _ _ (by decide) (show 31 < 96 from by decide)).trans q4
        exact wpOp_val rfl rfl (v := .int .i64 0) (w' := W) (by simp [execOp, go_sem, E31]) ⟨hIW, fun _ h => h, _, by decide, rfl, RP.set ((HPI6.out _ _).2 rfl)⟩
      | 7, _, hne, _ => exact absurd rfl hne
      | iq + 8, h, _, _ => exact absurd h (by omega)
    case refine_2 =>
      intro iq hiq hfr f W hI1 hdep0
      have hdep : ∀ j, j ≠ 7 → depB _ iq j = true → P j (f (slotS [32, 33, 34, 35, 31, 36, 37, 9999] j)) W := hdep0
      clear hdep0
      generalize ha1 : putsL _ [32, 33, 34, 35, 31, 36, 37] f = a1
      simp only [List.mem_cons, List.mem_nil_iff, or_false] at hfr
      rcases hfr with rfl
      · have hdep0 := hdep
        have hd4 := (HPI4.out _ _).1 (hdep0 4 (by decide) (by kernel_rfl))
        obtain ⟨xX, nX, cX, yX, mX, dX, zX, kX, eX, q4, r4_0⟩ := hd4
        have E31 : a1.tmps[31]?.getD undef = .tuple #[.agg #[.slice xX nX cX, .slice yX mX dX, .slice zX kX eX], .int .i64 0] := by rw [← ha1]; exact (putsL_in2 _ _ _ _ (by decide) (show 31 < 96 from by decide)).trans q4
        exact wpOp_val rfl rfl (v := .int .i64 0) (w' := W) (by simp [execOp, go_sem, E31]) ⟨rfl, _, by decide, rfl, RP.set ((HPI6.out _ _).2 rfl), hI1⟩
    case refine_3 =>
      intro f W hIW hdep0
      have hdep : ∀ j, j < 8 → j ≠ 7 → ([6] : List Nat).contains j = false → P j (f (slotS [32, 33, 34, 35, 31, 36, 37, 9999] j)) W := hdep0
      have HRP : Hid (∀ j W', (∀ v, P j v W → P j v W') → RP [32, 33, 34, 35, 31, 36, 37, 9999] P j f W → RP [32, 33, 34, 35, 31, 36, 37, 9999] P j f W') := Lib.hid fun j W' h1 h2 => h1 _ h2
      clear hdep0
      generalize ha1 : putsL _ [32, 33, 34, 35, 31, 36, 37] f = a1
      have E4 : a1.tmps[4]?.getD undef = .pointer (some ⟨bR, 0, none⟩) := by rw [← ha1]; exact (putsL_out2 _ _ _ _ (by decide)).trans rfl
      obtain ⟨xX, nX, cX, yX, mX, dX, zX, kX, eX, q5, r5_0⟩ := ((HPI5.out _ _).1 (hdep 5 (by decide) (by decide) (by decide)))
      have E36 : a1.tmps[36]?.getD undef = .agg #[.slice xX nX cX, .slice yX mX dX, .slice zX kX eX] := by rw [← ha1]; exact (putsL_in2 _ _ _ _ (by decide) (show 36 < 96 from by decide)).trans q5
      have hbx := HBX.out W hIW
      have p0 := obj_cell hbx 0
      have p1 := obj_cell hbx 1
      have p2 := obj_cell hbx 2
      have pf0 := obj_free hbx 0
      have pf1 := obj_free hbx 1
      have pf2 := obj_free hbx 2
      simp at p0 p1 p2
      have hg : W.grownBy (put3 W bR (.slice xX nX cX) (.slice yX mX dX) (.slice zX kX eX)) (some bR) := put3_grown _ _ _ _ _
      have hl := lone_reg hbx
      have hset := put3_at hbx rfl (.slice xX nX cX) (.slice yX mX dX) (.slice zX kX eX)
      obtain ⟨am, ham, hrr⟩ := r5_0
      exact wpOp_skip rfl rfl (w' := put3 W bR (.slice xX nX cX) (.slice yX mX dX) (.slice zX kX eX)) (by simp [execOp, go_sem, E4, E36, p0, p1, p2, pf0, pf1, pf2, put3]) ⟨rfl, ⟨xX, nX, cX, yX, mX, dX, zX, kX, eX, am, ham, ⟨HGR.out W _ hIW hg, hset, hrr.keepL hl hg, HNE.out.1, HNE.out.2⟩, HGX.out W _ hIW hg⟩, fun j h => HRP.out j _ (fun v h => HKL.out j v W _ bR hl hg trivial h) h⟩
    case refine_4 =>
      intro f W hI1 hR
      simp only [putsL, List.foldl_cons, List.foldl_nil, Act.put, List.setIfInBounds_toArray, List.set_cons_zero, List.set_cons_succ]
      obtain ⟨xX, nX, cX, yX, mX, dX, zX, kX, eX, hsw⟩ := hI1
      go_wp2
      go_meet
      exact ⟨xX, nX, cX, yX, mX, dX, zX, kX, eX, Lib.hid hsw⟩
  case rest =>
  obtain ⟨xX, nX, cX, yX, mX, dX, zX, kX, eX, HN⟩ := hcut
  clear HI0 HID HBX HCL HGR HGX HRN HPO HIO HIB HI9 egR egP
  obtain ⟨a, ha, hrg, hxg⟩ := HN.out
  generalize wc = w10 at *
  have HI10 := Lib.hid hrg
  have HX10 := Lib.hid hxg
  have HOK := Lib.hid (ok_g2 HPE.out ha)
  clear hrg hxg HN
  have hA := HI10.out.box
  have s0 := obj_cell hA 0
  have s1 := obj_cell hA 1
  have s2 := obj_cell hA 2
  simp at s0 s1 s2
  clear hA
  have HAL := Lib.hid (below_alloc w10 (.cells #[.int .i64 100, .int .i64 200, .int .i64 300, .int .i64 400] 3))
  have HRT : Hid (ListAt intC 1 (w10.alloc (.cells #[.int .i64 100, .int .i64 200, .int .i64 300, .int .i64 400] 3)) (.slice (some ⟨w10.heap.size, 0, none⟩) 4 4) [100, 200, 300, 400]) := Lib.hid (list_new intF w10 [100, 200, 300, 400] 3)
  have HP4 := Lib.hid (riProject_ok (gR2 p q a) _ _ _ _ 0 [100, 200, 300, 400] _ HOK.out (HI10.out.reg.below HAL.out) HRT.out (by omega) (by decide) z4_ok)
  unfold ProjPost at HP4
  go_wp2_with fail
  refine HP4.out.mono ?_
  rintro e w11 ⟨u, rfl, ho, hb11⟩
  have HI11 := Lib.hid ((HI10.out.below HAL.out).below hb11)
  have HX11 := Lib.hid (obj_below (obj_below HX10.out HAL.out) hb11)
  have ho4 : w11.ownsRow (w10.alloc (.cells #[.int .i64 100, .int .i64 200, .int .i64 300, .int .i64 400] 3)).heap.size 38 4 u 4 (cellsL srvC (projL (gR2 p q a) 0 [100, 200, 300, 400] 4)) := ho
  have hl4 : ListAt srvC 4 w11 u (projL (gR2 p q a) 0 [100, 200, 300, 400] 4) := ListAt.owns (by rw [projL_len]; exact ho4)
  obtain ⟨ao, cl, rfl, hcl, hsh⟩ := hl4.shape srvF
  rw [projL_len] at hcl ⊢
  obtain ⟨bl, ol, rfl, hbl, hcc⟩ := hsh (by rw [projL_len]; omega)
  have hCin := coupon_in ⟨_, _, cs_ok HPE.out⟩ (a := a) (by omega)
  obtain ⟨C, hC⟩ : ∃ C, C = couponI (cS p q) a := ⟨_, rfl⟩
  obtain ⟨D, hD⟩ : ∃ D, D = daysQ (cS p q) := ⟨_, rfl⟩
  have HCD := Lib.hid hC
  have HDD := Lib.hid hD
  rw [← hC] at hCin
  have HC4 : Hid (∀ W k, Below w11.heap.size w11 W → k < 4 → ∃ y d : Int, W.cell? ⟨bl, ol + k * 4, none⟩ = some (.int .i64 y) ∧ W.cell? ⟨bl, ol + k * 4 + 1, none⟩ = some (.int .i64 (C * (cnt (k : Int) D : Int))) ∧ W.cell? ⟨bl, ol + k * 4 + 2, none⟩ = some (.int .i64 0) ∧ W.cell? ⟨bl, ol + k * 4 + 3, none⟩ = some (.int .i64 d)) := Lib.hid fun W k hW hk => by
    have h0 := hcc k (by rw [projL_len]; exact hk) 0 (by omega)
    have h1 := hcc k (by rw [projL_len]; exact hk) 1 (by omega)
    have h2 := hcc k (by rw [projL_len]; exact hk) 2 (by omega)
    have h3 := hcc k (by rw [projL_len]; exact hk) 3 (by omega)
    rw [Nat.add_zero] at h0
    obtain ⟨e1, e2⟩ := g_srv p q a [100, 200, 300, 400] hk
    refine ⟨(srvM (gR2 p q a) 0 [100, 200, 300, 400] k).year, (srvM (gR2 p q a) 0 [100, 200, 300, 400] k).debt, ?_, ?_, ?_, ?_⟩
    · rw [hW.cell hbl, h0, projL_get]; rfl
    · rw [hW.cell hbl, h1, projL_get, hC, hD, ← e2]; rfl
    · rw [hW.cell hbl, h2, projL_get]
      show some (Value.int .i64 (srvM (gR2 p q a) 0 [100, 200, 300, 400] k).prin) = _
      rw [e1]
    · rw [hW.cell hbl, h3, projL_get]; rfl
  have HCO0 := Lib.hid (fun W => r34Coupon_ok (cs_ok HPE.out) a (by omega) (by omega) W)
  have HDY := Lib.hid (fun W => r34Days_ok (cs_ok HPE.out) W)
  unfold DaysPost at HDY
  rw [(cs_ok HPE.out).daysQ, ← hD] at HDY
  rw [← hC] at HCO0
  have hdl := days_len ⟨_, _, cs_ok HPE.out⟩
  have hdi := days_in ⟨_, _, cs_ok HPE.out⟩
  rw [← hD] at hdl hdi
  have HDI := Lib.hid hdi
  simp only [cS, Sec.cells] at HCO0 HDY
  clear ho ho4 hl4 hsh hcc hbl hb11 HP4 HRT HAL HI10 HX10 s0 s1 s2 hC hD hdi
  go_upto_region 7 with fail
  obtain ⟨J, hJ⟩ : ∃ J, J = fun W : World => Below w11.heap.size w11 W := ⟨_, rfl⟩
  have HJO : Hid (∀ W, J W → Below w11.heap.size w11 W) := Lib.hid fun W hW => by rw [hJ] at hW; exact hW
  have HJI : Hid (∀ W, Below w11.heap.size w11 W → J W) := Lib.hid fun W hW => by rw [hJ]; exact hW
  have HJD : Hid (∀ W, J W → J W.drew) := Lib.hid fun W hW => HJI.out _ ((HJO.out W hW).drew)
  have HJ0 : Hid (J w11) := Lib.hid (HJI.out _ (Below.refl _ _))
  have HCL : Hid (∀ W, J W → ∀ j, W.cell? ⟨bR, j, none⟩ = #[.slice xX nX cX, .slice yX mX dX, .slice zX kX eX][j]?) := Lib.hid fun W hW j => obj_cell (HI11.out.below (HJO.out W hW)).box j
  have HCX : Hid (∀ W, J W → ∀ j, W.cell? ⟨bX, j, none⟩ = #[.int .i64 1, .int .i64 1, .int .i64 0, .int .i64 1800, .int .i64 p, .int .i64 q, .bool false][j]?) := Lib.hid fun W hW j => obj_cell (obj_below HX11.out (HJO.out W hW)) j
  have HHE : Hid (∀ W, J W → Calls Try.prog 29 #[.agg #[.slice xX nX cX, .slice yX mX dX, .slice zX kX eX], .int .i64 1, .int .i64 1] W fun e w' => e = .returned (.int .i64 a) ∧ J w') := Lib.hid fun W hW => by
    have h := ryHeld_ok (gR2 p q a) _ _ _ 1 1 W HOK.out (HI11.out.below (HJO.out W hW)).reg
    rw [g_held] at h
    exact h.mono fun e w' ⟨h1, h2⟩ => ⟨h1, HJI.out _ ((HJO.out W hW).trans (h2.mono (HJO.out W hW).size))⟩
  have HCO : Hid (∀ W, J W → Calls Try.prog 28 #[.agg #[.int .i64 1, .int .i64 1, .int .i64 0, .int .i64 1800, .int .i64 p, .int .i64 q, .bool false], .int .i64 a] W fun e w' => e = .returned (.tuple #[.int .i64 C, .int .i64 0]) ∧ J w') := Lib.hid fun W hW =>
    (HCO0.out W).mono fun e w' ⟨h1, h2⟩ => ⟨h1, HJI.out _ ((HJO.out W hW).trans (h2.mono (HJO.out W hW).size))⟩
  have egH := enters_of Try.func29 (by kernel_rfl) rfl
  have egC := enters_of Try.func28 (by kernel_rfl) rfl
  clear hJ HJI HCO0
  go_cut [8, 9] (fun nv fv wx => nv = .int .i64 C ∧ fv = .int .i64 0 ∧ Hid (J wx))
  case first =>
    refine wp_region_props [45, 46, 47, 48, 44, 49, 50, 8, 9] (slotS [45, 46, 47, 48, 44, 49, 50, 8, 9]) (readsS [45, 46, 47, 48, 44, 49, 50, 8, 9]) (RTs [45, 46, 47, 48, 44, 49, 50, 8, 9] [.agg #[.int .i64 1, .int .i64 1, .int .i64 0, .int .i64 1800, .int .i64 p, .int .i64 q, .bool false], .agg #[.slice xX nX cX, .slice yX mX dX, .slice zX kX eX], .int .i64 a, .tuple #[.int .i64 C, .int .i64 0], .tuple #[.int .i64 C, .int .i64 0], .int .i64 C, .int .i64 0, .int .i64 C, .int .i64 0]) J (by kernel_rfl) (by kernel_rfl) (by kernel_rfl) (HJD.out _ HJ0.out) (fun j f q v W hq h => RTs.upd hq h) ?_ ?_
    case refine_1 =>
      intro iq hiq f W hIW hdep
      have hiq' : iq < 9 := hiq
      generalize ha1 : putsL _ [45, 46, 47, 48, 44, 49, 50, 8, 9] f = a1
      match iq, hiq', hdep with
      | 0, _, hdep =>
        have E5 : a1.tmps[5]?.getD undef = .pointer (some ⟨bX, 0, none⟩) := by rw [← ha1]; exact (putsL_out2 _ _ _ _ (by decide)).trans rfl
        have v0 : W.cell? ⟨bX, 0, none⟩ = some (.int .i64 1) := by simpa using HCX.out W hIW 0
        have v1 : W.cell? ⟨bX, 1, none⟩ = some (.int .i64 1) := by simpa using HCX.out W hIW 1
        have v2 : W.cell? ⟨bX, 2, none⟩ = some (.int .i64 0) := by simpa using HCX.out W hIW 2
        have v3 : W.cell? ⟨bX, 3, none⟩ = some (.int .i64 1800) := by simpa using HCX.out W hIW 3
        have v4 : W.cell? ⟨bX, 4, none⟩ = some (.int .i64 p) := by simpa using HCX.out W hIW 4
        have v5 : W.cell? ⟨bX, 5, none⟩ = some (.int .i64 q) := by simpa using HCX.out W hIW 5
        have v6 : W.cell? ⟨bX, 6, none⟩ = some (.bool false) := by simpa using HCX.out W hIW 6
        exact wpOp_val rfl rfl (v := .agg #[.int .i64 1, .int .i64 1, .int .i64 0, .int .i64 1800, .int .i64 p, .int .i64 q, .bool false]) (w' := W) (by simp [execOp, go_sem, E5, v0, v1, v2, v3, v4, v5, v6]) ⟨hIW, fun _ h => h, Or.inl ⟨_, by decide, rfl, updF_same _ _ _⟩⟩
      | 1, _, hdep =>
        have E4 : a1.tmps[4]?.getD undef = .pointer (some ⟨bR, 0, none⟩) := by rw [← ha1]; exact (putsL_out2 _ _ _ _ (by decide)).trans rfl
        have v0 : W.cell? ⟨bR, 0, none⟩ = some (.slice xX nX cX) := by simpa using HCL.out W hIW 0
        have v1 : W.cell? ⟨bR, 1, none⟩ = some (.slice yX mX dX) := by simpa using HCL.out W hIW 1
        have v2 : W.cell? ⟨bR, 2, none⟩ = some (.slice zX kX eX) := by simpa using HCL.out W hIW 2
        exact wpOp_val rfl rfl (v := .agg #[.slice xX nX cX, .slice yX mX dX, .slice zX kX eX]) (w' := W) (by simp [execOp, go_sem, E4, v0, v1, v2]) ⟨hIW, fun _ h => h, Or.inl ⟨_, by decide, rfl, updF_same _ _ _⟩⟩
      | 2, _, hdep =>
        have E46 : a1.tmps[46]?.getD undef = .agg #[.slice xX nX cX, .slice yX mX dX, .slice zX kX eX] := by rw [← ha1]; exact (putsL_in2 _ _ _ _ (by decide) (show 46 < 96 from by decide)).trans (hdep 1 (by kernel_rfl))
        refine wpOp_call rfl rfl (n := 29) (vs := #[.agg #[.slice xX nX cX, .slice yX mX dX, .slice zX kX eX], .int .i64 1, .int .i64 1]) (by have := egH #[.agg #[.slice xX nX cX, .slice yX mX dX, .slice zX kX eX], .int .i64 1, .int .i64 1] W; simp [execOp, E46, resolve, invoke, go_sem] <;> exact this) ((HHE.out W hIW).mono fun e w' h => (⟨_, h.1, rfl, h.2⟩ : ∃ v, e = .returned v ∧ (v = .int .i64 a ∧ J w'))) ?_
        rintro v w' ⟨rfl, hI'⟩
        exact ⟨hI', fun _ h => h, Or.inl ⟨_, by decide, rfl, updF_same _ _ _⟩⟩
      | 3, _, hdep =>
        have E45 : a1.tmps[45]?.getD undef = .agg #[.int .i64 1, .int .i64 1, .int .i64 0, .int .i64 1800, .int .i64 p, .int .i64 q, .bool false] := by rw [← ha1]; exact (putsL_in2 _ _ _ _ (by decide) (show 45 < 96 from by decide)).trans (hdep 0 (by kernel_rfl))
        have E47 : a1.tmps[47]?.getD undef = .int .i64 a := by rw [← ha1]; exact (putsL_in2 _ _ _ _ (by decide) (show 47 < 96 from by decide)).trans (hdep 2 (by kernel_rfl))
        refine wpOp_call rfl rfl (n := 28) (vs := #[.agg #[.int .i64 1, .int .i64 1, .int .i64 0, .int .i64 1800, .int .i64 p, .int .i64 q, .bool false], .int .i64 a]) (by have := egC #[.agg #[.int .i64 1, .int .i64 1, .int .i64 0, .int .i64 1800, .int .i64 p, .int .i64 q, .bool false], .int .i64 a] W; simp [execOp, E45, E47, resolve, invoke, go_sem] <;> exact this) ((HCO.out W hIW).mono fun e w' h => (⟨_, h.1, rfl, h.2⟩ : ∃ v, e = .returned v ∧ (v = .tuple #[.int .i64 C, .int .i64 0] ∧ J w'))) ?_
        rintro v w' ⟨rfl, hI'⟩
        exact ⟨hI', fun _ h => h, Or.inl ⟨_, by decide, rfl, updF_same _ _ _⟩⟩
      | 4, _, hdep =>
        have E48 : a1.tmps[48]?.getD undef = .tuple #[.int .i64 C, .int .i64 0] := by rw [← ha1]; exact (putsL_in2 _ _ _ _ (by decide) (show 48 < 96 from by decide)).trans (hdep 3 (by kernel_rfl))
        exact wpOp_val rfl rfl (v := .tuple #[.int .i64 C, .int .i64 0]) (w' := W) (by simp [execOp, go_sem, E48]) ⟨hIW, fun _ h => h, Or.inl ⟨_, by decide, rfl, updF_same _ _ _⟩⟩
      | 5, _, hdep =>
        have E44 : a1.tmps[44]?.getD undef = .tuple #[.int .i64 C, .int .i64 0] := by rw [← ha1]; exact (putsL_in2 _ _ _ _ (by decide) (show 44 < 96 from by decide)).trans (hdep 4 (by kernel_rfl))
        exact wpOp_val rfl rfl (v := .int .i64 C) (w' := W) (by simp [execOp, go_sem, E44]) ⟨hIW, fun _ h => h, Or.inl ⟨_, by decide, rfl, updF_same _ _ _⟩⟩
      | 6, _, hdep =>
        have E44 : a1.tmps[44]?.getD undef = .tuple #[.int .i64 C, .int .i64 0] := by rw [← ha1]; exact (putsL_in2 _ _ _ _ (by decide) (show 44 < 96 from by decide)).trans (hdep 4 (by kernel_rfl))
        exact wpOp_val rfl rfl (v := .int .i64 0) (w' := W) (by simp [execOp, go_sem, E44]) ⟨hIW, fun _ h => h, Or.inl ⟨_, by decide, rfl, updF_same _ _ _⟩⟩
      | 7, _, hdep =>
        have E49 : a1.tmps[49]?.getD undef = .int .i64 C := by rw [← ha1]; exact (putsL_in2 _ _ _ _ (by decide) (show 49 < 96 from by decide)).trans (hdep 5 (by kernel_rfl))
        exact wpOp_val rfl rfl (v := .int .i64 C) (w' := W) (by simp [execOp, go_sem, E49]) ⟨hIW, fun _ h => h, Or.inl ⟨_, by decide, rfl, updF_same _ _ _⟩⟩
      | 8, _, hdep =>
        have E50 : a1.tmps[50]?.getD undef = .int .i64 0 := by rw [← ha1]; exact (putsL_in2 _ _ _ _ (by decide) (show 50 < 96 from by decide)).trans (hdep 6 (by kernel_rfl))
        exact wpOp_val rfl rfl (v := .int .i64 0) (w' := W) (by simp [execOp, go_sem, E50]) ⟨hIW, fun _ h => h, Or.inl ⟨_, by decide, rfl, updF_same _ _ _⟩⟩
      | iq + 9, h, _ => exact absurd h (by omega)
    case refine_2 =>
      intro f W hIW hR
      have h8 : f 8 = .int .i64 C := hR 7 (show 7 < 9 from by decide)
      have h9 : f 9 = .int .i64 0 := hR 8 (show 8 < 9 from by decide)
      simp only [putsL, List.foldl_cons, List.foldl_nil, Act.put, List.setIfInBounds_toArray, List.set_cons_zero, List.set_cons_succ]
      go_wp2
      go_meet
      exact ⟨(by first | exact h8 | rfl), (by first | exact h9 | rfl), Lib.hid hIW⟩
  case rest =>
  obtain ⟨rfl, rfl, HJ12⟩ := hcut
  generalize wc = w12 at *
  have HB12 := Lib.hid (HJO.out _ HJ12.out)
  clear HJ12 HJO HJD HJ0 HCL HCX HHE HCO egH egC
  go_wp2
  go_loopw [10, 64] (fun sv iv wr => ∃ (k : Nat) (sq : Int), sv = .int .i64 sq ∧ iv = .int .i64 (k : Int) ∧ k ≤ 4 ∧ (0 ≤ sq ∧ sq ≤ 540000000 * (k : Int)) ∧ Hid (sq = C * (cntUp D k : Int)) ∧ Hid (Below w12.heap.size w12 wr)) (fun _ iv _ => 4 - (RowKit.intOf iv).toNat)
  case atStart => exact ⟨0, 0, rfl, rfl, by omega, by omega, Lib.hid (by simp [cntUp]), Lib.hid (Below.refl _ _)⟩
  case round =>
    obtain ⟨k, sq, rfl, rfl, hkm, hsq, HSQ, HBW⟩ := hrel
    by_cases hlk : k < 4
    · obtain ⟨yq, dq, g0, g1, g2, g3⟩ := HC4.out wr k (HB12.out.trans (HBW.out.mono HB12.out.size)) hlk
      have hcn : (cnt (k : Int) D : Int) ≤ 600 := by
        have b : cnt (k : Int) D ≤ D.length := List.countP_le_length
        omega
      have hi0 := Int.mul_nonneg hCin.1 (show 0 ≤ (cnt (k : Int) D : Int) by omega)
      have hi1 : C * (cnt (k : Int) D : Int) ≤ 900000 * 600 := Int.mul_le_mul (by omega) hcn (by omega) (by omega)
      have HNX2 : Hid (sq + C * (cnt (k : Int) D : Int) = C * (cntUp D (k + 1) : Int)) := Lib.hid (by rw [HSQ.out]; simp only [cntUp, Int.natCast_add, Int.mul_add])
      obtain ⟨tq, htq⟩ : ∃ t, t = C * (cnt (k : Int) D : Int) := ⟨_, rfl⟩
      rw [← htq] at g1 hi0 hi1 HNX2
      have hws : IntKind.i64.wrap (sq + tq) = sq + tq := IntWalk.i64_in _ (by omega)
      have hwk : IntKind.i64.wrap ((k : Int) + 1) = (k : Int) + 1 := IntWalk.i64_in _ (by omega)
      have hk0 : (0 : Int) ≤ (k : Int) := by omega
      have hk1 : (k : Int) < 4 := by omega
      have hns : (0 ≤ sq + tq ∧ sq + tq ≤ 540000000 * ((k + 1 : Nat) : Int)) := by omega
      have HB13 := Lib.hid (HBW.out.alloc HBW.out.size (.cells #[.int .i64 yq, .int .i64 tq, .int .i64 0, .int .i64 dq] 38))
      have hxb := heap_alloc_new wr (.cells #[.int .i64 yq, .int .i64 tq, .int .i64 0, .int .i64 dq] 38)
      obtain ⟨bE, hbE⟩ : ∃ b, b = wr.heap.size := ⟨_, rfl⟩
      obtain ⟨w13, hw13⟩ : ∃ W, W = wr.alloc (.cells #[.int .i64 yq, .int .i64 tq, .int .i64 0, .int .i64 dq] 38) := ⟨_, rfl⟩
      rw [← hw13] at HB13 hxb
      rw [← hbE] at hxb
      have y1 := obj_cell hxb 1
      have y2 := obj_cell hxb 2
      simp at y1 y2
      clear hxb hcn hi0 hi1 htq hsq
      go_upto_region 14 with fail
      rw [← hw13, ← hbE]
      clear hw13 hbE g0 g1 g2 g3
      go_wp2
      go_roundw
      case rel => exact ⟨k + 1, sq + tq, rfl, by first | rfl | go_num, by omega, hns, HNX2, HB13⟩
      case measure => simp [RowKit.intOf]; omega
    · obtain rfl : k = 4 := by omega
      have HB14 := Lib.hid (HB12.out.trans (HBW.out.mono HB12.out.size))
      have hA := obj_below HX11.out HB14.out
      have x0 := obj_cell hA 0
      have x1 := obj_cell hA 1
      have x2 := obj_cell hA 2
      have x3 := obj_cell hA 3
      have x4 := obj_cell hA 4
      have x5 := obj_cell hA 5
      have x6 := obj_cell hA 6
      simp at x0 x1 x2 x3 x4 x5 x6
      clear hA hlk hkm HBW
      go_wp2_with fail
      with_reducible refine Calls.mono (HDY.out _) ?_
      rintro e w14 ⟨v, rfl, ho, hb14⟩
      have HB15 := Lib.hid (HB14.out.trans (hb14.mono HB14.out.size))
      obtain ⟨ao, cap, rfl, hcap, hag⟩ := owns_gen ho
      have HC : Hid (∀ k (hk : k < D.length), ∃ g, ao = some ⟨g, 0, none⟩ ∧ w14.cell? ⟨g, k, none⟩ = some (.int .i64 D[k])) := Lib.hid fun k hk => by
        rcases hag with ⟨_, h0, _⟩ | ⟨g, rfl, _⟩
        · omega
        · have h := ho.cells (g := g) rfl k (.int .i64 D[k]) (by simp [cellsI, hk])
          rw [Addr.add_lit] at h
          rw [Nat.zero_add] at h
          exact ⟨g, rfl, h⟩
      obtain ⟨m, hm⟩ : ∃ m, m = D.length := ⟨_, rfl⟩
      have HM := Lib.hid hm
      rw [← hm] at hdl hcap ⊢
      clear ho hag hb14 hm x0 x1 x2 x3 x4 x5 x6 HDY HX11
      go_wp2
      go_loopw [13, 79] (fun dv iv wr => ∃ (k : Nat) (dq : Nat), dv = .int .i64 (dq : Int) ∧ iv = .int .i64 (k : Int) ∧ k ≤ m ∧ dq ≤ k ∧ Hid (dq = (D.take k).countP fun d => decide (d < 1440)) ∧ wr = w14) (fun _ iv _ => m - (RowKit.intOf iv).toNat)
      case atStart => exact ⟨0, 0, rfl, rfl, by omega, by omega, Lib.hid (by simp), rfl⟩
      case round =>
        obtain ⟨k, dq, rfl, rfl, hkm, hdk, HDQ, rfl⟩ := hrel
        by_cases hlk : k < m
        · have hkl : k < D.length := by rw [← HM.out]; exact hlk
          obtain ⟨g, rfl, c0⟩ := HC.out k hkl
          have hct := countP_take hkl
          rw [← HDQ.out] at hct
          generalize D[k] = z at c0 hct
          have hwk : IntKind.i64.wrap ((k : Int) + 1) = (k : Int) + 1 := IntWalk.i64_in _ (by omega)
          have hwd : IntKind.i64.wrap ((dq : Int) + 1) = (dq : Int) + 1 := IntWalk.i64_in _ (by omega)
          have hk0 : (0 : Int) ≤ (k : Int) := by omega
          have hk1 : (k : Int) < (m : Int) := by omega
          by_cases hz : z < 1440
          · rw [if_pos hz] at hct
            have HNX3 := Lib.hid hct.symm
            clear hct
            go_wp2
            go_roundw
            case rel => exact ⟨k + 1, dq + 1, by first | rfl | go_num, by first | rfl | go_num, by omega, by omega, HNX3, by first | exact trivial | rfl⟩
            case measure => simp [RowKit.intOf]; omega
          · rw [if_neg hz, Nat.add_zero] at hct
            have HNX3 := Lib.hid hct.symm
            clear hct
            go_wp2
            go_roundw
            case rel => exact ⟨k + 1, dq, rfl, by first | rfl | go_num, by omega, by omega, HNX3, by first | exact trivial | rfl⟩
            case measure => simp [RowKit.intOf]; omega
        · obtain rfl : k = m := by omega
          have hN : (cntUp D 4 : Int) = (dq : Int) := by
            rw [cntUp_four fun d hd => (HDI.out d hd).1, HDQ.out, HM.out, List.take_length]
          have hsm := HSQ.out
          rw [hN] at hsm
          have hw91 : IntKind.i64.wrap (C * (dq : Int)) = sq := by rw [← hsm]; exact IntWalk.i64_in _ (by omega)
          have HEND : Hid (∀ W, Below wr.heap.size wr W → Below w.heap.size w W) := Lib.hid fun W hW => HFIN.out _ (HI11.out.below (HB15.out.trans (hW.mono HB15.out.size))).si
          clear hsm hN HSQ HDQ HC HC4
          go_wp2_with fail
          refine (HSN.out _).mono ?_
          rintro e w15 ⟨rfl, hb15⟩
          have HE := Lib.hid (HEND.out _ hb15)
          clear hb15
          go_wp2
          go_ret
          exact ⟨rfl, HE.out⟩

end Go.Proofs.Ytblidmkkbcobgaa
