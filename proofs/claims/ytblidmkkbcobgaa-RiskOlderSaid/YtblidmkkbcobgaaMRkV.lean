/- Redeeming what falls due first never makes the average term shorter; a projection begun later has no coupons of earlier years: for every tape. -/
import Derived.Test.YtblidmkkbcobgaaMRkS
import Derived.Test.YtblidmkkbcobgaaMRkT
import Derived.Test.YtblidmkkbcobgaaMRkO
import Derived.Test.YtblidmkkbcobgaaMRoK
import Derived.Test.YtblidmkkbcobgaaMRegInv
set_option linter.unusedSimpArgs false
set_option linter.unusedVariables false
set_option linter.unusedSimpArgs false
set_option linter.unusedVariables false
namespace Go.Proofs.Ytblidmkkbcobgaa
open Go.RowKit Go.Lib Go.Proofs

/-- The register with one issue more. -/
def OlN (l : List Int) (x y z : Value) (W : World) : Prop := ∃ am : Int, (1 ≤ am ∧ am ≤ 5000) ∧ RegAt W x y z (olR (l ++ [am]))
theorem OlN.below {l : List Int} {x y z : Value} {A B : World} (h : OlN l x y z A) (hb : Below A.heap.size A B) : OlN l x y z B := by obtain ⟨q, h1, h2⟩ := h; exact ⟨q, h1, h2.below hb⟩
theorem OlN.turn {l : List Int} {x y z : Value} {A B : World} {tb : Nat} (h : OlN l x y z A) (hs : SrcAt A tb) (hg : A.grownBy B (some tb)) : OlN l x y z B := by obtain ⟨q, h1, h2⟩ := h; exact ⟨q, h1, h2.turn hs hg⟩
theorem OlN.keep {l : List Int} {x y z : Value} {A B : World} {b0 : Nat} (h : OlN l x y z A) (hl : Lone A b0) (hg : A.grownBy B (some b0)) : OlN l x y z B := by obtain ⟨q, h1, h2⟩ := h; exact ⟨q, h1, h2.keepL hl hg⟩
def OlI (w1 : World) (tb bR : Nat) (l : List Int) (x y z : Value) (W : World) : Prop := ∃ am : Int, (1 ≤ am ∧ am ≤ 5000) ∧ RgI w1 tb bR x y z (olR (l ++ [am])) W

theorem z5_ok : RatesOk [0, 0, 0, 0, 0] := fun q hq => by simp at hq; omega
theorem z3_ok : RatesOk [0, 0, 0] := fun q hq => by simp at hq; omega
theorem z5_at : ∀ i, rateAt [0, 0, 0, 0, 0] i = 0
  | 0 => rfl
  | 1 => rfl
  | 2 => rfl
  | 3 => rfl
  | 4 => rfl
  | 5 => rfl
  | _ + 6 => rfl
theorem z3_at : ∀ i, rateAt [0, 0, 0] i = 0
  | 0 => rfl
  | 1 => rfl
  | 2 => rfl
  | 3 => rfl
  | _ + 4 => rfl

set_option maxRecDepth 100000 in
set_option maxHeartbeats 16000000 in
theorem riolder_any (v : Value) (l : Nat) (w : World) (hi : IntsAt w v l w.heap.size) (hn : l ≤ 9223372036854775807) :
    Calls Try.prog 7 #[v] w fun e w' => e = .returned (.bool true) ∧ Below w.heap.size w w' := by
  have HNEW := Lib.hid (sNew_any v l w hi hn)
  have HSN := Lib.hid sane39_any
  clear hi hn
  go_enter Try.func7, Try.ntmps7
  go_wp2_with fail
  refine (HNEW.out).mono ?_
  rintro e w1 ⟨rfl, t1, b1⟩
  obtain ⟨tb, htb⟩ : ∃ tb, tb = w.heap.size := ⟨_, rfl⟩
  rw [← htb] at t1 ⊢
  have HFIN : Hid (∀ W, SI w1 tb W → Below w.heap.size w W) := Lib.hid fun W hW => b1.grown hW.old b1.size (fun q e => by injection e with e; omega)
  have hs1 := si_start t1
  clear b1 HNEW htb
  obtain ⟨bR, hbR⟩ : ∃ b, b = w1.heap.size := ⟨_, rfl⟩
  obtain ⟨w2, hw2⟩ : ∃ W, W = w1.alloc (.cells #[.slice none 0 0, .slice none 0 0, .slice none 0 0] 29) := ⟨_, rfl⟩
  have HNE : Hid (tb < bR ∧ w1.heap.size ≤ bR) := Lib.hid ⟨by have := hs1.lt; omega, by omega⟩
  have HR2 : Hid (RgI w1 tb bR (.slice none 0 0) (.slice none 0 0) (.slice none 0 0) (olR []) w2) := Lib.hid (by
    rw [hw2, hbR]
    exact ⟨hs1.alloc _, heap_alloc_new _ _, none_at _, hs1.lt, Nat.le_refl _⟩)
  clear hs1 t1
  go_upto_region 3 with fail
  rw [← hw2, ← hbR]
  clear hw2 hbR
  go_wp2
  go_loopw [5] (fun kv wr => ∃ (l : List Int) (iv : Int) (ra : Option Addr) (n0 c0 : Nat) (rb : Option Addr) (n1 c1 : Nat) (rc : Option Addr) (n2 c2 : Nat), kv = .int .i64 iv ∧ 1 ≤ iv ∧ iv ≤ 3 ∧ Hid (iv = (l.length : Int) + 1 ∧ OlOk l) ∧ Hid (RgI w1 tb bR (.slice ra n0 c0) (.slice rb n1 c1) (.slice rc n2 c2) (olR l) wr)) (fun kv _ => (3 - RowKit.intOf kv).toNat)
  case atStart => exact ⟨[], 1, _, _, _, _, _, _, _, _, _, rfl, by omega, by omega, Lib.hid ⟨rfl, by simp [OlOk]⟩, HR2⟩
  case round =>
    clear HR2
    obtain ⟨l, iv, ra, n0, c0, rb, n1, c1, rc, n2, c2, rfl, hi1, hi3, HL, HI⟩ := hrel
    by_cases hik : iv ≤ 2
    · have hlt : l.length < 2 := by have := HL.out.1; omega
      have hw29 : IntKind.i64.wrap (720 * iv) = 720 * iv := IntWalk.i64_in _ (by omega)
      have hw24 : IntKind.i64.wrap (iv + 1) = iv + 1 := IntWalk.i64_in _ (by omega)
      have HAD : Hid (∀ W, RegAt W (.slice ra n0 c0) (.slice rb n1 c1) (.slice rc n2 c2) (olR l) → Calls Try.prog 25 #[.agg #[.slice ra n0 c0, .slice rb n1 c1, .slice rc n2 c2], .agg #[.int .i64 iv, .int .i64 1, .int .i64 0, .int .i64 (720 * iv), .int .i64 5000, .int .i64 12, .bool false]] W fun e w' => ∃ x' y' z', e = .returned (.tuple #[.agg #[x', y', z'], .int .i64 0]) ∧ RegAt w' x' y' z' (olX l) ∧ Below W.heap.size W w') := Lib.hid fun W hW => by
        have h := ryAdd_ok (olR l) (oSec l.length) _ _ _ W (ol_ok HL.out.2) (oSec_ok _) (ol_ids hlt) (ol_len hlt) hW
        rw [ol_sec hlt, ← HL.out.1] at h
        exact h
      have HIS0 : Hid (∀ x y z W am, 1 ≤ am ∧ am ≤ 5000 → RegAt W x y z (olX l) → Calls Try.prog 26 #[.agg #[x, y, z], .int .i64 0, .int .i64 iv, .int .i64 1, .int .i64 am] W fun e w' => ∃ x' y' z', e = .returned (.tuple #[.agg #[x', y', z'], .int .i64 0]) ∧ RegAt w' x' y' z' (olR (l ++ [am])) ∧ Below W.heap.size W w') := Lib.hid fun x y z W am ham hW => by
        have h := ryIssue_ok (olX l) x y z 0 iv 1 am W (ol_x HL.out.2 hlt) hW
        obtain ⟨h1, h2⟩ := ol_issue HL.out.2 hlt ham
        rw [← HL.out.1] at h1 h2
        rw [h1, h2] at h
        exact h
      have HNXT : Hid (∀ am, 1 ≤ am ∧ am ≤ 5000 → iv + 1 = ((l ++ [am]).length : Int) + 1 ∧ OlOk (l ++ [am])) := Lib.hid fun am ham => ⟨by have := HL.out.1; simp; omega, ol_snoc HL.out.2 hlt ham⟩
      have hA := HI.out.box
      have s0 := obj_cell hA 0
      have s1 := obj_cell hA 1
      have s2 := obj_cell hA 2
      simp at s0 s1 s2
      clear hA
      go_wp2_with fail
      with_reducible refine Calls.mono (HAD.out _ HI.out.reg) ?_
      rintro e w4 ⟨x', y', z', rfl, hr', hb'⟩
      have HI2 := Lib.hid (HI.out.below hb')
      have HR4 := Lib.hid hr'
      obtain ⟨ra, n0, c0, rb, n1, c1, rc, n2, c2, rfl, rfl, rfl⟩ := hr'.slices
      clear hr' hb' HI s0 s1 s2 HAD
      have hA := HI2.out.box
      have s0 := obj_cell hA 0
      have s1 := obj_cell hA 1
      have s2 := obj_cell hA 2
      have sf0 := obj_free hA 0
      have sf1 := obj_free hA 1
      have sf2 := obj_free hA 2
      simp at s0 s1 s2
      have HI5 : Hid (RgI w1 tb bR (.slice ra n0 c0) (.slice rb n1 c1) (.slice rc n2 c2) (olX l) (put3 w4 bR (.slice ra n0 c0) (.slice rb n1 c1) (.slice rc n2 c2))) := Lib.hid (by
        have hg := put3_grown w4 bR (.slice ra n0 c0) (.slice rb n1 c1) (.slice rc n2 c2)
        exact ⟨HI2.out.si.grown hg (fun q e => by injection e with e; have := HI2.out.out; omega), put3_at hA rfl _ _ _, HR4.out.keepL (lone_reg hA) hg, HI2.out.ne, HI2.out.out⟩)
      obtain ⟨w5, hw5⟩ : ∃ W, W = put3 w4 bR (.slice ra n0 c0) (.slice rb n1 c1) (.slice rc n2 c2) := ⟨_, rfl⟩
      rw [← hw5] at HI5
      unfold put3 at hw5
      clear hA HI2 HR4
      go_upto_region 7 with fail
      rw [← hw5]
      clear hw5 s0 s1 s2 sf0 sf1 sf2
      obtain ⟨I, hI⟩ : ∃ I, I = fun W : World => RgI w1 tb bR (.slice ra n0 c0) (.slice rb n1 c1) (.slice rc n2 c2) (olX l) W := ⟨_, rfl⟩
      have HIO : Hid (∀ W, I W → RgI w1 tb bR (.slice ra n0 c0) (.slice rb n1 c1) (.slice rc n2 c2) (olX l) W) := Lib.hid fun W hW => by rw [hI] at hW; exact hW
      have HII : Hid (∀ W, RgI w1 tb bR (.slice ra n0 c0) (.slice rb n1 c1) (.slice rc n2 c2) (olX l) W → I W) := Lib.hid fun W hW => by rw [hI]; exact hW
      have HI0 : Hid (I w5) := Lib.hid (HII.out _ HI5.out)
      have HIB : Hid (∀ W W', I W → Below W.heap.size W W' → I W') := Lib.hid fun W W' hW hb => HII.out _ ((HIO.out W hW).below hb)
      have HID : Hid (∀ W, I W → I W.drew) := Lib.hid fun W hW => HIB.out _ _ hW (Below.refl _ _).drew
      have HBX : Hid (∀ W, I W → W.heap[bR]? = some (.cells #[.slice ra n0 c0, .slice rb n1 c1, .slice rc n2 c2] 29 (0, 0))) := Lib.hid fun W hW => (HIO.out W hW).box
      have HCL : Hid (∀ W, I W → ∀ j, W.cell? ⟨bR, j, none⟩ = #[.slice ra n0 c0, .slice rb n1 c1, .slice rc n2 c2][j]?) := Lib.hid fun W hW j => obj_cell (HBX.out W hW) j
      have HGR : Hid (∀ W W', I W → W.grownBy W' (some bR) → SI w1 tb W') := Lib.hid fun W W' hW hg => (HIO.out W hW).si.grown hg (fun q e => by injection e with e; have := HNE.out.2; omega)
      have HRN : Hid (∀ W, I W → Calls Try.prog 27 #[.pointer (some ⟨tb, 0, none⟩), .int .i64 1, .int .i64 5000] W fun e w' => ∃ am : Int, e = .returned (.int .i64 am) ∧ (1 ≤ am ∧ am ≤ 5000) ∧ I w' ∧ (SrcAt W tb ∧ W.grownBy w' (some tb))) := Lib.hid fun W hW => by
        refine (range_in (HIO.out W hW).si 1 5000 (by omega) (by omega) (by omega)).mono ?_
        rintro e w' ⟨q, rfl, h1, h2, h3, h4⟩
        exact ⟨q, rfl, ⟨h1, h2⟩, HII.out _ ((HIO.out W hW).turn h3.src h4), (HIO.out W hW).si.src, h4⟩
      have HPO : Hid (∀ (am : Int) W, I W → (1 ≤ am ∧ am ≤ 5000) → Calls Try.prog 26 #[.agg #[.slice ra n0 c0, .slice rb n1 c1, .slice rc n2 c2], .int .i64 0, .int .i64 iv, .int .i64 1, .int .i64 am] W fun e w' => ∃ (xX : Option Addr) (nX : Nat) (cX : Nat) (yX : Option Addr) (mX : Nat) (dX : Nat) (zX : Option Addr) (kX : Nat) (eX : Nat), e = .returned (.tuple #[.agg #[.slice xX nX cX, .slice yX mX dX, .slice zX kX eX], .int .i64 0]) ∧ OlN l (.slice xX nX cX) (.slice yX mX dX) (.slice zX kX eX) w' ∧ I w' ∧ Below W.heap.size W w') := Lib.hid fun am W hW ham => by
        refine (HIS0.out _ _ _ W am ham (HIO.out W hW).reg).mono ?_
        rintro e w' ⟨x', y', z', rfl, h5, h6⟩
        obtain ⟨xX, nX, cX, yX, mX, dX, zX, kX, eX, rfl, rfl, rfl⟩ := h5.slices
        exact ⟨xX, nX, cX, yX, mX, dX, zX, kX, eX, rfl, ⟨am, ham, h5⟩, HIB.out _ _ hW h6, h6⟩
      have egR := enters_of Try.func27 (by kernel_rfl) rfl
      have egP := enters_of Try.func26 (by kernel_rfl) rfl
      clear hI HII HIS0
      obtain ⟨P, hP⟩ : ∃ P : Nat → Value → World → Prop, P = fun j v W => match j with | 0 => (v = .agg #[.slice ra n0 c0, .slice rb n1 c1, .slice rc n2 c2]) | 1 => (v = .int .i64 iv) | 2 => (v = .pointer (some ⟨tb, 0, none⟩)) | 3 => (∃ am, v = .int .i64 am ∧ (1 ≤ am ∧ am ≤ 5000)) | 4 => (∃ xX nX cX yX mX dX zX kX eX, v = .tuple #[.agg #[.slice xX nX cX, .slice yX mX dX, .slice zX kX eX], .int .i64 0] ∧ OlN l (.slice xX nX cX) (.slice yX mX dX) (.slice zX kX eX) W) | 5 => (∃ xX nX cX yX mX dX zX kX eX, v = .tuple #[.agg #[.slice xX nX cX, .slice yX mX dX, .slice zX kX eX], .int .i64 0] ∧ OlN l (.slice xX nX cX) (.slice yX mX dX) (.slice zX kX eX) W) | 6 => (∃ xX nX cX yX mX dX zX kX eX, v = .agg #[.slice xX nX cX, .slice yX mX dX, .slice zX kX eX] ∧ OlN l (.slice xX nX cX) (.slice yX mX dX) (.slice zX kX eX) W) | 7 => (v = .int .i64 0) | _ => True := ⟨_, rfl⟩
      have HPI0 : Hid (∀ v W, P 0 v W ↔ (v = .agg #[.slice ra n0 c0, .slice rb n1 c1, .slice rc n2 c2])) := Lib.hid fun v W => by rw [hP] <;> exact Iff.rfl
      have HPI1 : Hid (∀ v W, P 1 v W ↔ (v = .int .i64 iv)) := Lib.hid fun v W => by rw [hP] <;> exact Iff.rfl
      have HPI2 : Hid (∀ v W, P 2 v W ↔ (v = .pointer (some ⟨tb, 0, none⟩))) := Lib.hid fun v W => by rw [hP] <;> exact Iff.rfl
      have HPI3 : Hid (∀ v W, P 3 v W ↔ (∃ am, v = .int .i64 am ∧ (1 ≤ am ∧ am ≤ 5000))) := Lib.hid fun v W => by rw [hP] <;> exact Iff.rfl
      have HPI4 : Hid (∀ v W, P 4 v W ↔ (∃ xX nX cX yX mX dX zX kX eX, v = .tuple #[.agg #[.slice xX nX cX, .slice yX mX dX, .slice zX kX eX], .int .i64 0] ∧ OlN l (.slice xX nX cX) (.slice yX mX dX) (.slice zX kX eX) W)) := Lib.hid fun v W => by rw [hP] <;> exact Iff.rfl
      have HPI5 : Hid (∀ v W, P 5 v W ↔ (∃ xX nX cX yX mX dX zX kX eX, v = .tuple #[.agg #[.slice xX nX cX, .slice yX mX dX, .slice zX kX eX], .int .i64 0] ∧ OlN l (.slice xX nX cX) (.slice yX mX dX) (.slice zX kX eX) W)) := Lib.hid fun v W => by rw [hP] <;> exact Iff.rfl
      have HPI6 : Hid (∀ v W, P 6 v W ↔ (∃ xX nX cX yX mX dX zX kX eX, v = .agg #[.slice xX nX cX, .slice yX mX dX, .slice zX kX eX] ∧ OlN l (.slice xX nX cX) (.slice yX mX dX) (.slice zX kX eX) W)) := Lib.hid fun v W => by rw [hP] <;> exact Iff.rfl
      have HPI7 : Hid (∀ v W, P 7 v W ↔ (v = .int .i64 0)) := Lib.hid fun v W => by rw [hP] <;> exact Iff.rfl
      have HKP : Hid (∀ (j : Nat) v W W', Below W.heap.size W W' → P j v W → P j v W') := Lib.hid (by
        rw [hP]
        intro j v W W' hb h
        match j, h with
        | 0, h => exact h
        | 1, h => exact h
        | 2, h => exact h
        | 3, ⟨am, e, s0⟩ => exact ⟨am, e, s0⟩
        | 4, ⟨xX, nX, cX, yX, mX, dX, zX, kX, eX, e, s0⟩ => exact ⟨xX, nX, cX, yX, mX, dX, zX, kX, eX, e, s0.below hb⟩
        | 5, ⟨xX, nX, cX, yX, mX, dX, zX, kX, eX, e, s0⟩ => exact ⟨xX, nX, cX, yX, mX, dX, zX, kX, eX, e, s0.below hb⟩
        | 6, ⟨xX, nX, cX, yX, mX, dX, zX, kX, eX, e, s0⟩ => exact ⟨xX, nX, cX, yX, mX, dX, zX, kX, eX, e, s0.below hb⟩
        | 7, h => exact h
        | 8, _ => trivial
        | j + 9, _ => trivial)
      have HKT : Hid (∀ (j : Nat) v W W', SrcAt W tb → W.grownBy W' (some tb) → P j v W → P j v W') := Lib.hid (by
        rw [hP]
        intro j v W W' hs hg h
        match j, h with
        | 0, h => exact h
        | 1, h => exact h
        | 2, h => exact h
        | 3, ⟨am, e, s0⟩ => exact ⟨am, e, s0⟩
        | 4, ⟨xX, nX, cX, yX, mX, dX, zX, kX, eX, e, s0⟩ => exact ⟨xX, nX, cX, yX, mX, dX, zX, kX, eX, e, s0.turn hs hg⟩
        | 5, ⟨xX, nX, cX, yX, mX, dX, zX, kX, eX, e, s0⟩ => exact ⟨xX, nX, cX, yX, mX, dX, zX, kX, eX, e, s0.turn hs hg⟩
        | 6, ⟨xX, nX, cX, yX, mX, dX, zX, kX, eX, e, s0⟩ => exact ⟨xX, nX, cX, yX, mX, dX, zX, kX, eX, e, s0.turn hs hg⟩
        | 7, h => exact h
        | 8, _ => trivial
        | j + 9, _ => trivial)
      have HKL : Hid (∀ (j : Nat) v W W' b0, Lone W b0 → W.grownBy W' (some b0) → True → P j v W → P j v W') := Lib.hid (by
        rw [hP]
        intro j v W W' b0 hl hg hke h
        match j, h with
        | 0, h => exact h
        | 1, h => exact h
        | 2, h => exact h
        | 3, ⟨am, e, s0⟩ => exact ⟨am, e, s0⟩
        | 4, ⟨xX, nX, cX, yX, mX, dX, zX, kX, eX, e, s0⟩ => exact ⟨xX, nX, cX, yX, mX, dX, zX, kX, eX, e, s0.keep hl hg⟩
        | 5, ⟨xX, nX, cX, yX, mX, dX, zX, kX, eX, e, s0⟩ => exact ⟨xX, nX, cX, yX, mX, dX, zX, kX, eX, e, s0.keep hl hg⟩
        | 6, ⟨xX, nX, cX, yX, mX, dX, zX, kX, eX, e, s0⟩ => exact ⟨xX, nX, cX, yX, mX, dX, zX, kX, eX, e, s0.keep hl hg⟩
        | 7, h => exact h
        | 8, _ => trivial
        | j + 9, _ => trivial)
      clear hP
      refine wp_region_store [35, 36, 37, 38, 39, 34, 40, 41] (slotS [35, 36, 37, 38, 39, 34, 40, 41, 9999]) (readsS [35, 36, 37, 38, 39, 34, 40, 41, 9999]) (RP [35, 36, 37, 38, 39, 34, 40, 41, 9999] P) I (fun _ W => ∃ (xX : Option Addr) (nX : Nat) (cX : Nat) (yX : Option Addr) (mX : Nat) (dX : Nat) (zX : Option Addr) (kX : Nat) (eX : Nat), OlI w1 tb bR l (.slice xX nX cX) (.slice yX mX dX) (.slice zX kX eX) W) 8 8 [7] (by decide) (by kernel_rfl) (by kernel_rfl) (by kernel_rfl) (by kernel_rfl) (HID.out _ HI0.out) (fun j f q v W hq h => RP.upd hq h) ?_ ?_ ?_ ?_
      case refine_1 =>
        intro iq hiq hne f W hIW hdep0
        have hiq' : iq < 9 := hiq
        have hdep : ∀ j, j ≠ 8 → depB _ iq j = true → P j (f (slotS [35, 36, 37, 38, 39, 34, 40, 41, 9999] j)) W := hdep0
        clear hdep0
        generalize ha1 : putsL _ [35, 36, 37, 38, 39, 34, 40, 41] f = a1
        match iq, hiq', hne, hdep with
        | 0, _, _, hdep0 =>
          have E4 : a1.tmps[4]?.getD undef = .pointer (some ⟨bR, 0, none⟩) := by rw [← ha1]; exact (putsL_out2 _ _ _ _ (by decide)).trans rfl
          have v0 : W.cell? ⟨bR, 0, none⟩ = some (.slice ra n0 c0) := by simpa using HCL.out W hIW 0
          have v1 : W.cell? ⟨bR, 1, none⟩ = some (.slice rb n1 c1) := by simpa using HCL.out W hIW 1
          have v2 : W.cell? ⟨bR, 2, none⟩ = some (.slice rc n2 c2) := by simpa using HCL.out W hIW 2
          exact wpOp_val rfl rfl (v := .agg #[.slice ra n0 c0, .slice rb n1 c1, .slice rc n2 c2]) (w' := W) (by simp [execOp, go_sem, E4, v0, v1, v2]) ⟨hIW, fun _ h => h, _, by decide, rfl, RP.set ((HPI0.out _ _).2 rfl)⟩
        | 1, _, _, hdep0 =>
          have E5 : a1.tmps[5]?.getD undef = .int .i64 iv := by rw [← ha1]; exact (putsL_out2 _ _ _ _ (by decide)).trans rfl
          exact wpOp_val rfl rfl (v := .int .i64 iv) (w' := W) (by simp [execOp, go_sem, E5]) ⟨hIW, fun _ h => h, _, by decide, rfl, RP.set ((HPI1.out _ _).2 rfl)⟩
        | 2, _, _, hdep0 =>
          have E3 : a1.tmps[3]?.getD undef = .pointer (some ⟨tb, 0, none⟩) := by rw [← ha1]; exact (putsL_out2 _ _ _ _ (by decide)).trans rfl
          exact wpOp_val rfl rfl (v := .pointer (some ⟨tb, 0, none⟩)) (w' := W) (by simp [execOp, go_sem, E3]) ⟨hIW, fun _ h => h, _, by decide, rfl, RP.set ((HPI2.out _ _).2 rfl)⟩
        | 3, _, _, hdep0 =>
          have hd2 := (HPI2.out _ _).1 (hdep0 2 (by decide) (by kernel_rfl))
          have E37 : a1.tmps[37]?.getD undef = .pointer (some ⟨tb, 0, none⟩) := by rw [← ha1]; exact (putsL_in2 _ _ _ _ (by decide) (show 37 < 148 from by decide)).trans hd2
          refine wpOp_call rfl rfl (n := 27) (vs := #[.pointer (some ⟨tb, 0, none⟩), .int .i64 1, .int .i64 5000]) (by have := egR #[.pointer (some ⟨tb, 0, none⟩), .int .i64 1, .int .i64 5000] W; simp [execOp, E37, resolve, invoke, go_sem] <;> exact this) ((HRN.out W hIW).mono fun e w' hh => (by obtain ⟨am, rfl, p0, hJ', hb'⟩ := hh; exact ⟨_, rfl, (HPI3.out _ _).2 ⟨_, rfl, p0⟩, hJ', hb'⟩ : ∃ v, e = .returned v ∧ (P 3 v w' ∧ I w' ∧ SrcAt W tb ∧ W.grownBy w' (some tb)))) ?_
          rintro v w' ⟨hv, hI', hb'⟩
          exact ⟨hI', fun j h => HKT.out j _ _ _ hb'.1 hb'.2 h, _, by decide, rfl, RP.set hv⟩
        | 4, _, _, hdep0 =>
          have hd0 := (HPI0.out _ _).1 (hdep0 0 (by decide) (by kernel_rfl))
          have hd1 := (HPI1.out _ _).1 (hdep0 1 (by decide) (by kernel_rfl))
          have hd3 := (HPI3.out _ _).1 (hdep0 3 (by decide) (by kernel_rfl))
          have E35 : a1.tmps[35]?.getD undef = .agg #[.slice ra n0 c0, .slice rb n1 c1, .slice rc n2 c2] := by rw [← ha1]; exact (putsL_in2 _ _ _ _ (by decide) (show 35 < 148 from by decide)).trans hd0
          have E36 : a1.tmps[36]?.getD undef = .int .i64 iv := by rw [← ha1]; exact (putsL_in2 _ _ _ _ (by decide) (show 36 < 148 from by decide)).trans hd1
          obtain ⟨am, q3, r3_0⟩ := hd3
          have E38 : a1.tmps[38]?.getD undef = .int .i64 am := by rw [← ha1]; exact (putsL_in2 _ _ _ _ (by decide) (show 38 < 148 from by decide)).trans q3
          refine wpOp_call rfl rfl (n := 26) (vs := #[.agg #[.slice ra n0 c0, .slice rb n1 c1, .slice rc n2 c2], .int .i64 0, .int .i64 iv, .int .i64 1, .int .i64 am]) (by have := egP #[.agg #[.slice ra n0 c0, .slice rb n1 c1, .slice rc n2 c2], .int .i64 0, .int .i64 iv, .int .i64 1, .int .i64 am] W; simp [execOp, E35, E36, E38, resolve, invoke, go_sem] <;> exact this) ((HPO.out _ W hIW r3_0).mono fun e w' hh => (by obtain ⟨xX, nX, cX, yX, mX, dX, zX, kX, eX, rfl, p0, hJ', hb'⟩ := hh; exact ⟨_, rfl, (HPI4.out _ _).2 ⟨_, _, _, _, _, _, _, _, _, rfl, p0⟩, hJ', hb'⟩ : ∃ v, e = .returned v ∧ (P 4 v w' ∧ I w' ∧ Below W.heap.size W w'))) ?_
          rintro v w' ⟨hv, hI', hb'⟩
          exact ⟨hI', fun j h => HKP.out j _ _ _ hb' h, _, by decide, rfl, RP.set hv⟩
        | 5, _, _, hdep0 =>
          have hd4 := (HPI4.out _ _).1 (hdep0 4 (by decide) (by kernel_rfl))
          obtain ⟨xX, nX, cX, yX, mX, dX, zX, kX, eX, q4, r4_0⟩ := hd4
          have E39 : a1.tmps[39]?.getD undef = .tuple #[.agg #[.slice xX nX cX, .slice yX mX dX, .slice zX kX eX], .int .i64 0] := by rw [← ha1]; exact (putsL_in2 _ _ _ _ (by decide) (show 39 < 148 from by decide)).trans q4
          exact wpOp_val rfl rfl (v := .tuple #[.agg #[.slice xX nX cX, .slice yX mX dX, .slice zX kX eX], .int .i64 0]) (w' := W) (by simp [execOp, go_sem, E39]) ⟨hIW, fun _ h => h, _, by decide, rfl, RP.set ((HPI5.out _ _).2 ⟨_, _, _, _, _, _, _, _, _, rfl, r4_0⟩)⟩
        | 6, _, _, hdep0 =>
          have hd5 := (HPI5.out _ _).1 (hdep0 5 (by decide) (by kernel_rfl))
          obtain ⟨xX, nX, cX, yX, mX, dX, zX, kX, eX, q5, r5_0⟩ := hd5
          have E34 : a1.tmps[34]?.getD undef = .tuple #[.agg #[.slice xX nX cX, .slice yX mX dX, .slice zX kX eX], .int .i64 0] := by rw [← ha1]; exact (putsL_in2 _ _ _ _ (by decide) (show 34 < 148 from by decide)).trans q5
          exact wpOp_val rfl rfl (v := .agg #[.slice xX nX cX, .slice yX mX dX, .slice zX kX eX]) (w' := W) (by simp [execOp, go_sem, E34]) ⟨hIW, fun _ h => h, _, by decide, rfl, RP.set ((HPI6.out _ _).2 ⟨_, _, _, _, _, _, _, _, _, rfl, r5_0⟩)⟩
        | 7, _, _, hdep0 =>
          have hd5 := (HPI5.out _ _).1 (hdep0 5 (by decide) (by kernel_rfl))
          obtain ⟨xX, nX, cX, yX, mX, dX, zX, kX, eX, q5, r5_0⟩ := hd5
          have E34 : a1.tmps[34]?.getD undef = .tuple #[.agg #[.slice xX nX cX, .slice yX mX dX, .slice zX kX eX], .int .i64 0] := by rw [← ha1]; exact (putsL_in2 _ _ _ _ (by decide) (show 34 < 148 from by decide)).trans q5
          exact wpOp_val rfl rfl (v := .int .i64 0) (w' := W) (by simp [execOp, go_sem, E34]) ⟨hIW, fun _ h => h, _, by decide, rfl, RP.set ((HPI7.out _ _).2 rfl)⟩
        | 8, _, hne, _ => exact absurd rfl hne
        | iq + 9, h, _, _ => exact absurd h (by omega)
      case refine_2 =>
        intro iq hiq hfr f W hI1 hdep0
        have hdep : ∀ j, j ≠ 8 → depB _ iq j = true → P j (f (slotS [35, 36, 37, 38, 39, 34, 40, 41, 9999] j)) W := hdep0
        clear hdep0
        generalize ha1 : putsL _ [35, 36, 37, 38, 39, 34, 40, 41] f = a1
        simp only [List.mem_cons, List.mem_nil_iff, or_false] at hfr
        rcases hfr with rfl
        · have hdep0 := hdep
          have hd5 := (HPI5.out _ _).1 (hdep0 5 (by decide) (by kernel_rfl))
          obtain ⟨xX, nX, cX, yX, mX, dX, zX, kX, eX, q5, r5_0⟩ := hd5
          have E34 : a1.tmps[34]?.getD undef = .tuple #[.agg #[.slice xX nX cX, .slice yX mX dX, .slice zX kX eX], .int .i64 0] := by rw [← ha1]; exact (putsL_in2 _ _ _ _ (by decide) (show 34 < 148 from by decide)).trans q5
          exact wpOp_val rfl rfl (v := .int .i64 0) (w' := W) (by simp [execOp, go_sem, E34]) ⟨rfl, _, by decide, rfl, RP.set ((HPI7.out _ _).2 rfl), hI1⟩
      case refine_3 =>
        intro f W hIW hdep0
        have hdep : ∀ j, j < 9 → j ≠ 8 → ([7] : List Nat).contains j = false → P j (f (slotS [35, 36, 37, 38, 39, 34, 40, 41, 9999] j)) W := hdep0
        have HRP : Hid (∀ j W', (∀ v, P j v W → P j v W') → RP [35, 36, 37, 38, 39, 34, 40, 41, 9999] P j f W → RP [35, 36, 37, 38, 39, 34, 40, 41, 9999] P j f W') := Lib.hid fun j W' h1 h2 => h1 _ h2
        clear hdep0
        generalize ha1 : putsL _ [35, 36, 37, 38, 39, 34, 40, 41] f = a1
        have E4 : a1.tmps[4]?.getD undef = .pointer (some ⟨bR, 0, none⟩) := by rw [← ha1]; exact (putsL_out2 _ _ _ _ (by decide)).trans rfl
        obtain ⟨xX, nX, cX, yX, mX, dX, zX, kX, eX, q6, r6_0⟩ := ((HPI6.out _ _).1 (hdep 6 (by decide) (by decide) (by decide)))
        have E40 : a1.tmps[40]?.getD undef = .agg #[.slice xX nX cX, .slice yX mX dX, .slice zX kX eX] := by rw [← ha1]; exact (putsL_in2 _ _ _ _ (by decide) (show 40 < 148 from by decide)).trans q6
        have hbx := HBX.out W hIW
        have p0 := obj_cell hbx 0
        have p1 := obj_cell hbx 1
        have p2 := obj_cell hbx 2
        have pf0 := obj_free hbx 0
        have pf1 := obj_free hbx 1
        have pf2 := obj_free hbx 2
        simp at p0 p1 p2
        have hg : W.grownBy (put3 W bR (.slice xX nX cX) (.slice yX mX dX) (.slice zX kX eX)) (some bR) := put3_grown _ _ _ _ _
        have hl := lone_reg hbx
        have hset := put3_at hbx rfl (.slice xX nX cX) (.slice yX mX dX) (.slice zX kX eX)
        obtain ⟨am, ham, hrr⟩ := r6_0
        exact wpOp_skip rfl rfl (w' := put3 W bR (.slice xX nX cX) (.slice yX mX dX) (.slice zX kX eX)) (by simp [execOp, go_sem, E4, E40, p0, p1, p2, pf0, pf1, pf2, put3]) ⟨rfl, ⟨xX, nX, cX, yX, mX, dX, zX, kX, eX, am, ham, ⟨HGR.out W _ hIW hg, hset, hrr.keepL hl hg, HNE.out.1, HNE.out.2⟩⟩, fun j h => HRP.out j _ (fun v h => HKL.out j v W _ bR hl hg trivial h) h⟩
      case refine_4 =>
        intro f W hI1 hR
        simp only [putsL, List.foldl_cons, List.foldl_nil, Act.put, List.setIfInBounds_toArray, List.set_cons_zero, List.set_cons_succ]
        obtain ⟨xX, nX, cX, yX, mX, dX, zX, kX, eX, am, ham, hrg⟩ := hI1
        have HRGN := Lib.hid hrg
        have HLN := Lib.hid (HNXT.out am ham)
        clear hrg HNXT HI0 HID HBX HCL HGR HRN HPO HIO HIB HI5 egR egP
        go_wp2
        go_roundw
        case rel => exact ⟨l ++ [am], iv + 1, _, _, _, _, _, _, _, _, _, by first | rfl | go_num, by omega, by omega, HLN, HRGN⟩
        case measure => simp [RowKit.intOf]; omega
    · obtain rfl : iv = 3 := by omega
      obtain ⟨a, b, rfl, ha, hb⟩ := ol_two HL.out.2 (by have := HL.out.1; omega)
      have HOK := Lib.hid (olr2 ha hb)
      have HRD := Lib.hid (ol_redeem ha hb)
      have HT0 := Lib.hid (fun x y z W hr => riterm_ok (olR [a, b]) x y z 10 W HOK.out hr (by omega))
      have HTZ := Lib.hid (fun x y z W hr => riterm_ok (olZ a b) x y z 10 W HRD.out.2.2 hr (by omega))
      rw [(ol_term a b).1, (ol_term a b).2] at HT0
      rw [(ol_termZ a b).1, (ol_termZ a b).2] at HTZ
      have hlong := ol_longer ha.1 hb.1
      obtain ⟨sN, hsN⟩ : ∃ q, q = a * 710 + b * 1430 := ⟨_, rfl⟩
      obtain ⟨sD, hsD⟩ : ∃ q, q = a + b := ⟨_, rfl⟩
      obtain ⟨zN, hzN⟩ : ∃ q, q = b * 1430 := ⟨_, rfl⟩
      rw [← hsN, ← hsD] at HT0
      rw [← hzN] at HTZ
      rw [← hsN, ← hsD, ← hzN] at hlong
      have hzN0 : 0 ≤ zN ∧ zN ≤ 7150000 := by omega
      have hsN0 : 0 ≤ sN ∧ sN ≤ 10700000 := by omega
      have hsD0 : b < sD ∧ sD ≤ 10000 := by omega
      clear hsN hsD hzN
      have HPJ := Lib.hid (fun x y z v first (rates : List Int) W (hr : RegAt W x y z (olR [a, b])) (hv : ListAt intC 1 W v rates) (h1 : 0 ≤ first ∧ first ≤ 100) (h2 : 1 ≤ rates.length ∧ rates.length ≤ 60) (h3 : RatesOk rates) => riProject_ok (olR [a, b]) x y z v first rates W HOK.out hr hv h1 h2 h3)
      unfold ProjPost at HPJ
      have hA := HI.out.box
      have s0 := obj_cell hA 0
      have s1 := obj_cell hA 1
      have s2 := obj_cell hA 2
      simp at s0 s1 s2
      clear hA HL hik
      go_wp2_with fail
      with_reducible refine Calls.mono (HT0.out _ _ _ _ HI.out.reg) ?_
      rintro e w6 ⟨rfl, hb6⟩
      have HI6 := Lib.hid (HI.out.below hb6)
      clear hb6 HT0 HI s0 s1 s2
      go_upto_region 9 with fail
      obtain ⟨base, hbase⟩ : ∃ n, n = w6.heap.size := ⟨_, rfl⟩
      have HTB2 : Hid (tb < base) := Lib.hid (by rw [hbase]; exact HI6.out.si.src.lt)
      have HAB : Hid (bR < base) := Lib.hid (by rw [hbase]; exact obj_lt HI6.out.box)
      obtain ⟨I, hI⟩ : ∃ I, I = fun W : World => RgI w1 tb bR (.slice ra n0 c0) (.slice rb n1 c1) (.slice rc n2 c2) (olR [a, b]) W ∧ base ≤ W.heap.size := ⟨_, rfl⟩
      have HIO : Hid (∀ W, I W → RgI w1 tb bR (.slice ra n0 c0) (.slice rb n1 c1) (.slice rc n2 c2) (olR [a, b]) W ∧ base ≤ W.heap.size) := Lib.hid fun W hW => by rw [hI] at hW; exact hW
      have HII : Hid (∀ W, RgI w1 tb bR (.slice ra n0 c0) (.slice rb n1 c1) (.slice rc n2 c2) (olR [a, b]) W → base ≤ W.heap.size → I W) := Lib.hid fun W hW h => by rw [hI]; exact ⟨hW, h⟩
      have HI0 : Hid (I w6) := Lib.hid (HII.out _ HI6.out (by rw [hbase]; exact Nat.le_refl _))
      have HIB : Hid (∀ W W', I W → Below W.heap.size W W' → I W') := Lib.hid fun W W' hW hb => HII.out _ ((HIO.out W hW).1.below hb) (Nat.le_trans (HIO.out W hW).2 hb.size)
      have HID : Hid (∀ W, I W → I W.drew) := Lib.hid fun W hW => HIB.out _ _ hW (Below.refl _ _).drew
      have HIA : Hid (∀ W o, I W → I (W.alloc o)) := Lib.hid fun W o hW => HIB.out _ _ hW (below_alloc W o)
      have HCL : Hid (∀ W, I W → ∀ i, W.cell? ⟨bR, i, none⟩ = #[.slice ra n0 c0, .slice rb n1 c1, .slice rc n2 c2][i]?) := Lib.hid fun W hW i => obj_cell (HIO.out W hW).1.box i
      have HBOX : Hid (∀ W, I W → RBox base W.heap.size (W.alloc (.cells #[.slice none 0 0, .slice none 0 0, .slice none 0 0] 29))) := Lib.hid fun W hW => ⟨(HIO.out W hW).2, _, _, _, _, _, _, _, _, _, heap_alloc_new _ _⟩
      have HHE : Hid (∀ W, I W → Calls Try.prog 29 #[.agg #[.slice ra n0 c0, .slice rb n1 c1, .slice rc n2 c2], .int .i64 1, .int .i64 1] W fun e w' => e = .returned (.int .i64 a) ∧ I w' ∧ Below W.heap.size W w') := Lib.hid fun W hW => by
        have h := ryHeld_ok (olR [a, b]) _ _ _ 1 1 W HOK.out (HIO.out W hW).1.reg
        rw [ol_held] at h
        exact h.mono fun e w' ⟨h1, h2⟩ => ⟨h1, HIB.out _ _ hW h2, h2⟩
      have HRE : Hid (∀ W, I W → Calls Try.prog 31 #[.agg #[.slice ra n0 c0, .slice rb n1 c1, .slice rc n2 c2], .int .i64 10, .int .i64 1, .int .i64 1, .int .i64 a] W fun e w' => ∃ (xX : Option Addr) (nX : Nat) (cX : Nat) (yX : Option Addr) (mX : Nat) (dX : Nat) (zX : Option Addr) (kX : Nat) (eX : Nat), e = .returned (.tuple #[.agg #[.slice xX nX cX, .slice yX mX dX, .slice zX kX eX], .int .i64 0]) ∧ RegAt w' (.slice xX nX cX) (.slice yX mX dX) (.slice zX kX eX) (olZ a b) ∧ I w' ∧ Below W.heap.size W w') := Lib.hid fun W hW => by
        have h := ryRedeem_ok (olR [a, b]) _ _ _ 10 1 1 a W HOK.out (HIO.out W hW).1.reg
        rw [HRD.out.1, HRD.out.2.1] at h
        refine h.mono ?_
        rintro e w' ⟨x', y', z', rfl, h5, h6⟩
        obtain ⟨xX, nX, cX, yX, mX, dX, zX, kX, eX, rfl, rfl, rfl⟩ := h5.slices
        exact ⟨xX, nX, cX, yX, mX, dX, zX, kX, eX, rfl, h5, HIB.out _ _ hW h6, h6⟩
      have HIP : Hid (∀ W (bE : Nat) (x0 : Option Addr) (p0 q0 : Nat) (x1 : Option Addr) (p1 q1 : Nat) (x2 : Option Addr) (p2 q2 : Nat), I W → base ≤ bE → (∃ (z0 : Option Addr) (z1 z2 : Nat) (z3 : Option Addr) (z4 z5 : Nat) (z6 : Option Addr) (z7 z8 : Nat), W.heap[bE]? = some (.cells #[.slice z0 z1 z2, .slice z3 z4 z5, .slice z6 z7 z8] 29 (0, 0))) → I (put3 W bE (.slice x0 p0 q0) (.slice x1 p1 q1) (.slice x2 p2 q2))) := Lib.hid fun W bE x0 p0 q0 x1 p1 q1 x2 p2 q2 hW hb hx => by
        obtain ⟨_, _, _, _, _, _, _, _, _, hx⟩ := hx
        have hg := put3_grown W bE (.slice x0 p0 q0) (.slice x1 p1 q1) (.slice x2 p2 q2)
        have hl := lone_reg hx
        obtain ⟨h1, h2⟩ := HIO.out W hW
        have hAB := HAB.out
        have h3 := h1.out
        exact HII.out _ ⟨h1.si.grown hg (fun q e => by injection e with e; omega), (hg.block _ (obj_lt h1.box) (by simp; omega)).trans h1.box, h1.reg.keepL hl hg, h1.ne, h1.out⟩ (Nat.le_trans h2 hg.size)
      have egH := enters_of Try.func29 (by kernel_rfl) rfl
      have egP := enters_of Try.func31 (by kernel_rfl) rfl
      clear hI hbase HII
      obtain ⟨P, hP⟩ : ∃ P : Nat → Value → World → Prop, P = fun j v W => match j with | 0 => (v = .agg #[.slice ra n0 c0, .slice rb n1 c1, .slice rc n2 c2]) | 1 => (v = .agg #[.slice ra n0 c0, .slice rb n1 c1, .slice rc n2 c2]) | 2 => (v = .int .i64 a) | 3 => (∃ xX nX cX yX mX dX zX kX eX, v = .tuple #[.agg #[.slice xX nX cX, .slice yX mX dX, .slice zX kX eX], .int .i64 0] ∧ RegAt W (.slice xX nX cX) (.slice yX mX dX) (.slice zX kX eX) (olZ a b)) | 4 => (∃ xX nX cX yX mX dX zX kX eX, v = .tuple #[.agg #[.slice xX nX cX, .slice yX mX dX, .slice zX kX eX], .int .i64 0] ∧ RegAt W (.slice xX nX cX) (.slice yX mX dX) (.slice zX kX eX) (olZ a b)) | 5 => (∃ xX nX cX yX mX dX zX kX eX, v = .agg #[.slice xX nX cX, .slice yX mX dX, .slice zX kX eX] ∧ RegAt W (.slice xX nX cX) (.slice yX mX dX) (.slice zX kX eX) (olZ a b)) | 6 => (v = .int .i64 0) | 7 => (∃ bE, v = .pointer (some ⟨bE, 0, none⟩) ∧ RBox base bE W) | 9 => (v = .int .i64 0) | _ => True := ⟨_, rfl⟩
      have HPI0 : Hid (∀ v W, P 0 v W ↔ (v = .agg #[.slice ra n0 c0, .slice rb n1 c1, .slice rc n2 c2])) := Lib.hid fun v W => by rw [hP] <;> exact Iff.rfl
      have HPI1 : Hid (∀ v W, P 1 v W ↔ (v = .agg #[.slice ra n0 c0, .slice rb n1 c1, .slice rc n2 c2])) := Lib.hid fun v W => by rw [hP] <;> exact Iff.rfl
      have HPI2 : Hid (∀ v W, P 2 v W ↔ (v = .int .i64 a)) := Lib.hid fun v W => by rw [hP] <;> exact Iff.rfl
      have HPI3 : Hid (∀ v W, P 3 v W ↔ (∃ xX nX cX yX mX dX zX kX eX, v = .tuple #[.agg #[.slice xX nX cX, .slice yX mX dX, .slice zX kX eX], .int .i64 0] ∧ RegAt W (.slice xX nX cX) (.slice yX mX dX) (.slice zX kX eX) (olZ a b))) := Lib.hid fun v W => by rw [hP] <;> exact Iff.rfl
      have HPI4 : Hid (∀ v W, P 4 v W ↔ (∃ xX nX cX yX mX dX zX kX eX, v = .tuple #[.agg #[.slice xX nX cX, .slice yX mX dX, .slice zX kX eX], .int .i64 0] ∧ RegAt W (.slice xX nX cX) (.slice yX mX dX) (.slice zX kX eX) (olZ a b))) := Lib.hid fun v W => by rw [hP] <;> exact Iff.rfl
      have HPI5 : Hid (∀ v W, P 5 v W ↔ (∃ xX nX cX yX mX dX zX kX eX, v = .agg #[.slice xX nX cX, .slice yX mX dX, .slice zX kX eX] ∧ RegAt W (.slice xX nX cX) (.slice yX mX dX) (.slice zX kX eX) (olZ a b))) := Lib.hid fun v W => by rw [hP] <;> exact Iff.rfl
      have HPI6 : Hid (∀ v W, P 6 v W ↔ (v = .int .i64 0)) := Lib.hid fun v W => by rw [hP] <;> exact Iff.rfl
      have HPI7 : Hid (∀ v W, P 7 v W ↔ (∃ bE, v = .pointer (some ⟨bE, 0, none⟩) ∧ RBox base bE W)) := Lib.hid fun v W => by rw [hP] <;> exact Iff.rfl
      have HPI9 : Hid (∀ v W, P 9 v W ↔ (v = .int .i64 0)) := Lib.hid fun v W => by rw [hP] <;> exact Iff.rfl
      have HKP : Hid (∀ (j : Nat) v W W', Below W.heap.size W W' → P j v W → P j v W') := Lib.hid (by
        rw [hP]
        intro j v W W' hb h
        match j, h with
        | 0, h => exact h
        | 1, h => exact h
        | 2, h => exact h
        | 3, ⟨xX, nX, cX, yX, mX, dX, zX, kX, eX, e, s0⟩ => exact ⟨xX, nX, cX, yX, mX, dX, zX, kX, eX, e, s0.below hb⟩
        | 4, ⟨xX, nX, cX, yX, mX, dX, zX, kX, eX, e, s0⟩ => exact ⟨xX, nX, cX, yX, mX, dX, zX, kX, eX, e, s0.below hb⟩
        | 5, ⟨xX, nX, cX, yX, mX, dX, zX, kX, eX, e, s0⟩ => exact ⟨xX, nX, cX, yX, mX, dX, zX, kX, eX, e, s0.below hb⟩
        | 6, h => exact h
        | 7, ⟨bE, e, s0⟩ => exact ⟨bE, e, s0.below hb⟩
        | 8, _ => trivial
        | 9, h => exact h
        | j + 10, _ => trivial)
      have HKL : Hid (∀ (j : Nat) v W W' b0, Lone W b0 → W.grownBy W' (some b0) → (∀ b, RBox base b W → RBox base b W') → P j v W → P j v W') := Lib.hid (by
        rw [hP]
        intro j v W W' b0 hl hg hke h
        match j, h with
        | 0, h => exact h
        | 1, h => exact h
        | 2, h => exact h
        | 3, ⟨xX, nX, cX, yX, mX, dX, zX, kX, eX, e, s0⟩ => exact ⟨xX, nX, cX, yX, mX, dX, zX, kX, eX, e, s0.keepL hl hg⟩
        | 4, ⟨xX, nX, cX, yX, mX, dX, zX, kX, eX, e, s0⟩ => exact ⟨xX, nX, cX, yX, mX, dX, zX, kX, eX, e, s0.keepL hl hg⟩
        | 5, ⟨xX, nX, cX, yX, mX, dX, zX, kX, eX, e, s0⟩ => exact ⟨xX, nX, cX, yX, mX, dX, zX, kX, eX, e, s0.keepL hl hg⟩
        | 6, h => exact h
        | 7, ⟨bE, e, s0⟩ => exact ⟨bE, e, hke _ s0⟩
        | 8, _ => trivial
        | 9, h => exact h
        | j + 10, _ => trivial)
      clear hP
      go_cut [9, 10] (fun pv ev wx => ∃ (bE : Nat) (xX : Option Addr) (nX : Nat) (cX : Nat) (yX : Option Addr) (mX : Nat) (dX : Nat) (zX : Option Addr) (kX : Nat) (eX : Nat), pv = .pointer (some ⟨bE, 0, none⟩) ∧ ev = .int .i64 0 ∧ base ≤ bE ∧ Hid (I wx) ∧ Hid (wx.heap[bE]? = some (.cells #[.slice xX nX cX, .slice yX mX dX, .slice zX kX eX] 29 (0, 0))) ∧ Hid (RegAt wx (.slice xX nX cX) (.slice yX mX dX) (.slice zX kX eX) (olZ a b)))
      case first =>
        refine wp_region_store [49, 50, 51, 52, 48, 53, 54, 9, 10] (slotS [49, 50, 51, 52, 48, 53, 54, 9, 9999, 10]) (readsS [49, 50, 51, 52, 48, 53, 54, 9, 9999, 10]) (RP [49, 50, 51, 52, 48, 53, 54, 9, 9999, 10] P) I (fun f W => ∃ (bE : Nat) (xX : Option Addr) (nX : Nat) (cX : Nat) (yX : Option Addr) (mX : Nat) (dX : Nat) (zX : Option Addr) (kX : Nat) (eX : Nat), f 9 = .pointer (some ⟨bE, 0, none⟩) ∧ base ≤ bE ∧ I W ∧ W.heap[bE]? = some (.cells #[.slice xX nX cX, .slice yX mX dX, .slice zX kX eX] 29 (0, 0)) ∧ RegAt W (.slice xX nX cX) (.slice yX mX dX) (.slice zX kX eX) (olZ a b)) 8 8 [6, 9] (by decide) (by kernel_rfl) (by kernel_rfl) (by kernel_rfl) (by kernel_rfl) (HID.out _ HI0.out) (fun j f q v W hq h => RP.upd hq h) ?_ ?_ ?_ ?_
        case refine_1 =>
          intro iq hiq hne f W hIW hdep0
          have hiq' : iq < 10 := hiq
          have hdep : ∀ j, j ≠ 8 → depB _ iq j = true → P j (f (slotS [49, 50, 51, 52, 48, 53, 54, 9, 9999, 10] j)) W := hdep0
          clear hdep0
          generalize ha1 : putsL _ [49, 50, 51, 52, 48, 53, 54, 9, 10] f = a1
          match iq, hiq', hne, hdep with
          | 0, _, _, hdep0 =>
            have E4 : a1.tmps[4]?.getD undef = .pointer (some ⟨bR, 0, none⟩) := by rw [← ha1]; exact (putsL_out2 _ _ _ _ (by decide)).trans rfl
            have v0 : W.cell? ⟨bR, 0, none⟩ = some (.slice ra n0 c0) := by simpa using HCL.out W hIW 0
            have v1 : W.cell? ⟨bR, 1, none⟩ = some (.slice rb n1 c1) := by simpa using HCL.out W hIW 1
            have v2 : W.cell? ⟨bR, 2, none⟩ = some (.slice rc n2 c2) := by simpa using HCL.out W hIW 2
            exact wpOp_val rfl rfl (v := .agg #[.slice ra n0 c0, .slice rb n1 c1, .slice rc n2 c2]) (w' := W) (by simp [execOp, go_sem, E4, v0, v1, v2]) ⟨hIW, fun _ h => h, _, by decide, rfl, RP.set ((HPI0.out _ _).2 rfl)⟩
          | 1, _, _, hdep0 =>
            have E4 : a1.tmps[4]?.getD undef = .pointer (some ⟨bR, 0, none⟩) := by rw [← ha1]; exact (putsL_out2 _ _ _ _ (by decide)).trans rfl
            have v0 : W.cell? ⟨bR, 0, none⟩ = some (.slice ra n0 c0) := by simpa using HCL.out W hIW 0
            have v1 : W.cell? ⟨bR, 1, none⟩ = some (.slice rb n1 c1) := by simpa using HCL.out W hIW 1
            have v2 : W.cell? ⟨bR, 2, none⟩ = some (.slice rc n2 c2) := by simpa using HCL.out W hIW 2
            exact wpOp_val rfl rfl (v := .agg #[.slice ra n0 c0, .slice rb n1 c1, .slice rc n2 c2]) (w' := W) (by simp [execOp, go_sem, E4, v0, v1, v2]) ⟨hIW, fun _ h => h, _, by decide, rfl, RP.set ((HPI1.out _ _).2 rfl)⟩
          | 2, _, _, hdep0 =>
            have hd1 := (HPI1.out _ _).1 (hdep0 1 (by decide) (by kernel_rfl))
            have E50 : a1.tmps[50]?.getD undef = .agg #[.slice ra n0 c0, .slice rb n1 c1, .slice rc n2 c2] := by rw [← ha1]; exact (putsL_in2 _ _ _ _ (by decide) (show 50 < 148 from by decide)).trans hd1
            refine wpOp_call rfl rfl (n := 29) (vs := #[.agg #[.slice ra n0 c0, .slice rb n1 c1, .slice rc n2 c2], .int .i64 1, .int .i64 1]) (by have := egH #[.agg #[.slice ra n0 c0, .slice rb n1 c1, .slice rc n2 c2], .int .i64 1, .int .i64 1] W; simp [execOp, E50, resolve, invoke, go_sem] <;> exact this) ((HHE.out W hIW).mono fun e w' hh => (by obtain ⟨rfl, hJ', hb'⟩ := hh; exact ⟨_, rfl, (HPI2.out _ _).2 rfl, hJ', hb'⟩ : ∃ v, e = .returned v ∧ (P 2 v w' ∧ I w' ∧ Below W.heap.size W w'))) ?_
            rintro v w' ⟨hv, hI', hb'⟩
            exact ⟨hI', fun j h => HKP.out j _ _ _ hb' h, _, by decide, rfl, RP.set hv⟩
          | 3, _, _, hdep0 =>
            have hd0 := (HPI0.out _ _).1 (hdep0 0 (by decide) (by kernel_rfl))
            have hd2 := (HPI2.out _ _).1 (hdep0 2 (by decide) (by kernel_rfl))
            have E49 : a1.tmps[49]?.getD undef = .agg #[.slice ra n0 c0, .slice rb n1 c1, .slice rc n2 c2] := by rw [← ha1]; exact (putsL_in2 _ _ _ _ (by decide) (show 49 < 148 from by decide)).trans hd0
            have E51 : a1.tmps[51]?.getD undef = .int .i64 a := by rw [← ha1]; exact (putsL_in2 _ _ _ _ (by decide) (show 51 < 148 from by decide)).trans hd2
            refine wpOp_call rfl rfl (n := 31) (vs := #[.agg #[.slice ra n0 c0, .slice rb n1 c1, .slice rc n2 c2], .int .i64 10, .int .i64 1, .int .i64 1, .int .i64 a]) (by have := egP #[.agg #[.slice ra n0 c0, .slice rb n1 c1, .slice rc n2 c2], .int .i64 10, .int .i64 1, .int .i64 1, .int .i64 a] W; simp [execOp, E49, E51, resolve, invoke, go_sem] <;> exact this) ((HRE.out W hIW).mono fun e w' hh => (by obtain ⟨xX, nX, cX, yX, mX, dX, zX, kX, eX, rfl, p0, hJ', hb'⟩ := hh; exact ⟨_, rfl, (HPI3.out _ _).2 ⟨_, _, _, _, _, _, _, _, _, rfl, p0⟩, hJ', hb'⟩ : ∃ v, e = .returned v ∧ (P 3 v w' ∧ I w' ∧ Below W.heap.size W w'))) ?_
            rintro v w' ⟨hv, hI', hb'⟩
            exact ⟨hI', fun j h => HKP.out j _ _ _ hb' h, _, by decide, rfl, RP.set hv⟩
          | 4, _, _, hdep0 =>
            have hd3 := (HPI3.out _ _).1 (hdep0 3 (by decide) (by kernel_rfl))
            obtain ⟨xX, nX, cX, yX, mX, dX, zX, kX, eX, q3, r3_0⟩ := hd3
            have E52 : a1.tmps[52]?.getD undef = .tuple #[.agg #[.slice xX nX cX, .slice yX mX dX, .slice zX kX eX], .int .i64 0] := by rw [← ha1]; exact (putsL_in2 _ _ _ _ (by decide) (show 52 < 148 from by decide)).trans q3
            exact wpOp_val rfl rfl (v := .tuple #[.agg #[.slice xX nX cX, .slice yX mX dX, .slice zX kX eX], .int .i64 0]) (w' := W) (by simp [execOp, go_sem, E52]) ⟨hIW, fun _ h => h, _, by decide, rfl, RP.set ((HPI4.out _ _).2 ⟨_, _, _, _, _, _, _, _, _, rfl, r3_0⟩)⟩
          | 5, _, _, hdep0 =>
            have hd4 := (HPI4.out _ _).1 (hdep0 4 (by decide) (by kernel_rfl))
            obtain ⟨xX, nX, cX, yX, mX, dX, zX, kX, eX, q4, r4_0⟩ := hd4
            have E48 : a1.tmps[48]?.getD undef = .tuple #[.agg #[.slice xX nX cX, .slice yX mX dX, .slice zX kX eX], .int .i64 0] := by rw [← ha1]; exact (putsL_in2 _ _ _ _ (by decide) (show 48 < 148 from by decide)).trans q4
            exact wpOp_val rfl rfl (v := .agg #[.slice xX nX cX, .slice yX mX dX, .slice zX kX eX]) (w' := W) (by simp [execOp, go_sem, E48]) ⟨hIW, fun _ h => h, _, by decide, rfl, RP.set ((HPI5.out _ _).2 ⟨_, _, _, _, _, _, _, _, _, rfl, r4_0⟩)⟩
          | 6, _, _, hdep0 =>
            have hd4 := (HPI4.out _ _).1 (hdep0 4 (by decide) (by kernel_rfl))
            obtain ⟨xX, nX, cX, yX, mX, dX, zX, kX, eX, q4, r4_0⟩ := hd4
            have E48 : a1.tmps[48]?.getD undef = .tuple #[.agg #[.slice xX nX cX, .slice yX mX dX, .slice zX kX eX], .int .i64 0] := by rw [← ha1]; exact (putsL_in2 _ _ _ _ (by decide) (show 48 < 148 from by decide)).trans q4
            exact wpOp_val rfl rfl (v := .int .i64 0) (w' := W) (by simp [execOp, go_sem, E48]) ⟨hIW, fun _ h => h, _, by decide, rfl, RP.set ((HPI6.out _ _).2 rfl)⟩
          | 7, _, _, hdep0 =>
            exact wpOp_val rfl rfl (v := .pointer (some ⟨W.heap.size, 0, none⟩)) (w' := W.alloc (.cells #[.slice none 0 0, .slice none 0 0, .slice none 0 0] 29)) (by simp [execOp, go_sem]) ⟨(HIA.out _ _ hIW), fun j h => HKP.out j _ _ _ (below_alloc _ _) h, _, by decide, rfl, RP.set ((HPI7.out _ _).2 ⟨_, rfl, HBOX.out _ hIW⟩)⟩
          | 8, _, hne, _ => exact absurd rfl hne
          | 9, _, _, hdep0 =>
            have hd6 := (HPI6.out _ _).1 (hdep0 6 (by decide) (by kernel_rfl))
            have E54 : a1.tmps[54]?.getD undef = .int .i64 0 := by rw [← ha1]; exact (putsL_in2 _ _ _ _ (by decide) (show 54 < 148 from by decide)).trans hd6
            exact wpOp_val rfl rfl (v := .int .i64 0) (w' := W) (by simp [execOp, go_sem, E54]) ⟨hIW, fun _ h => h, _, by decide, rfl, RP.set ((HPI9.out _ _).2 rfl)⟩
          | iq + 10, h, _, _ => exact absurd h (by omega)
        case refine_2 =>
          intro iq hiq hfr f W hI1 hdep0
          have hdep : ∀ j, j ≠ 8 → depB _ iq j = true → P j (f (slotS [49, 50, 51, 52, 48, 53, 54, 9, 9999, 10] j)) W := hdep0
          clear hdep0
          generalize ha1 : putsL _ [49, 50, 51, 52, 48, 53, 54, 9, 10] f = a1
          simp only [List.mem_cons, List.mem_nil_iff, or_false] at hfr
          rcases hfr with rfl | rfl
          · have hdep0 := hdep
            have hd4 := (HPI4.out _ _).1 (hdep0 4 (by decide) (by kernel_rfl))
            obtain ⟨xX, nX, cX, yX, mX, dX, zX, kX, eX, q4, r4_0⟩ := hd4
            have E48 : a1.tmps[48]?.getD undef = .tuple #[.agg #[.slice xX nX cX, .slice yX mX dX, .slice zX kX eX], .int .i64 0] := by rw [← ha1]; exact (putsL_in2 _ _ _ _ (by decide) (show 48 < 148 from by decide)).trans q4
            exact wpOp_val rfl rfl (v := .int .i64 0) (w' := W) (by simp [execOp, go_sem, E48]) ⟨rfl, _, by decide, rfl, RP.set ((HPI6.out _ _).2 rfl), (by obtain ⟨bE, xX, nX, cX, yX, mX, dX, zX, kX, eX, h1, h2⟩ := hI1; exact ⟨bE, xX, nX, cX, yX, mX, dX, zX, kX, eX, (updF_other f _ (by decide)).trans h1, h2⟩)⟩
          · have hdep0 := hdep
            have hd6 := (HPI6.out _ _).1 (hdep0 6 (by decide) (by kernel_rfl))
            have E54 : a1.tmps[54]?.getD undef = .int .i64 0 := by rw [← ha1]; exact (putsL_in2 _ _ _ _ (by decide) (show 54 < 148 from by decide)).trans hd6
            exact wpOp_val rfl rfl (v := .int .i64 0) (w' := W) (by simp [execOp, go_sem, E54]) ⟨rfl, _, by decide, rfl, RP.set ((HPI9.out _ _).2 rfl), (by obtain ⟨bE, xX, nX, cX, yX, mX, dX, zX, kX, eX, h1, h2⟩ := hI1; exact ⟨bE, xX, nX, cX, yX, mX, dX, zX, kX, eX, (updF_other f _ (by decide)).trans h1, h2⟩)⟩
        case refine_3 =>
          intro f W hIW hdep0
          have hdep : ∀ j, j < 10 → j ≠ 8 → ([6, 9] : List Nat).contains j = false → P j (f (slotS [49, 50, 51, 52, 48, 53, 54, 9, 9999, 10] j)) W := hdep0
          have HRP : Hid (∀ j W', (∀ v, P j v W → P j v W') → RP [49, 50, 51, 52, 48, 53, 54, 9, 9999, 10] P j f W → RP [49, 50, 51, 52, 48, 53, 54, 9, 9999, 10] P j f W') := Lib.hid fun j W' h1 h2 => h1 _ h2
          clear hdep0
          generalize ha1 : putsL _ [49, 50, 51, 52, 48, 53, 54, 9, 10] f = a1
          obtain ⟨bE, q7, r7_0⟩ := ((HPI7.out _ _).1 (hdep 7 (by decide) (by decide) (by decide)))
          have E9 : a1.tmps[9]?.getD undef = .pointer (some ⟨bE, 0, none⟩) := by rw [← ha1]; exact (putsL_in2 _ _ _ _ (by decide) (show 9 < 148 from by decide)).trans q7
          obtain ⟨xX, nX, cX, yX, mX, dX, zX, kX, eX, q5, r5_0⟩ := ((HPI5.out _ _).1 (hdep 5 (by decide) (by decide) (by decide)))
          have E53 : a1.tmps[53]?.getD undef = .agg #[.slice xX nX cX, .slice yX mX dX, .slice zX kX eX] := by rw [← ha1]; exact (putsL_in2 _ _ _ _ (by decide) (show 53 < 148 from by decide)).trans q5
          obtain ⟨hbE1, z0, z1, z2, z3, z4, z5, z6, z7, z8, hbE2⟩ := r7_0
          have p0 := obj_cell hbE2 0
          have p1 := obj_cell hbE2 1
          have p2 := obj_cell hbE2 2
          have pf0 := obj_free hbE2 0
          have pf1 := obj_free hbE2 1
          have pf2 := obj_free hbE2 2
          simp at p0 p1 p2
          have e8 : f 9 = .pointer (some ⟨bE, 0, none⟩) := q7
          have hg : W.grownBy (put3 W bE (.slice xX nX cX) (.slice yX mX dX) (.slice zX kX eX)) (some bE) := put3_grown _ _ _ _ _
          have hl := lone_reg hbE2
          have hset := put3_at hbE2 rfl (.slice xX nX cX) (.slice yX mX dX) (.slice zX kX eX)
          exact wpOp_skip rfl rfl (w' := put3 W bE (.slice xX nX cX) (.slice yX mX dX) (.slice zX kX eX)) (by simp [execOp, go_sem, E9, E53, p0, p1, p2, pf0, pf1, pf2, put3]) ⟨rfl, ⟨bE, xX, nX, cX, yX, mX, dX, zX, kX, eX, e8, hbE1, HIP.out _ _ _ _ _ _ _ _ _ _ _ hIW hbE1 ⟨_, _, _, _, _, _, _, _, _, hbE2⟩, hset, r5_0.keepL hl hg⟩, fun j h => HRP.out j _ (fun v h => HKL.out j v W _ bE hl hg (fun b hb => hb.put hbE2) h) h⟩
        case refine_4 =>
          intro f W hI1 hR
          have h10 := (HPI9.out _ _).1 (hR 9 (show 9 < 10 from by decide) (by decide))
          simp only [putsL, List.foldl_cons, List.foldl_nil, Act.put, List.setIfInBounds_toArray, List.set_cons_zero, List.set_cons_succ]
          obtain ⟨bE, xX, nX, cX, yX, mX, dX, zX, kX, eX, h1, h2, h3, h4, h5⟩ := hI1
          go_wp2
          go_meet
          exact ⟨bE, xX, nX, cX, yX, mX, dX, zX, kX, eX, (by first | exact h1 | rfl), (by first | exact h10 | rfl), h2, Lib.hid h3, Lib.hid h4, Lib.hid h5⟩
      case rest =>
        obtain ⟨bE, xX, nX, cX, yX, mX, dX, zX, kX, eX, rfl, rfl, hbE, HI9, HBE, HRZ⟩ := hcut
        clear HHE HRE HBOX HCL HIP HIA HID HIB HI0 egH egP
        have HD9 := Lib.hid (HIO.out _ HI9.out).1
        clear HI9 HIO HI6
        generalize wc = w9 at *
        have hex := HBE.out
        have g0 := obj_cell hex 0
        have g1 := obj_cell hex 1
        have g2 := obj_cell hex 2
        simp at g0 g1 g2
        clear hex hbE HTB2 HAB HBE
        go_wp2_with fail
        with_reducible refine Calls.mono (HTZ.out _ _ _ _ HRZ.out) ?_
        rintro e w10 ⟨rfl, hb10⟩
        have HI10 := Lib.hid (HD9.out.below hb10)
        clear hb10 HTZ HRZ HD9 g0 g1 g2
        have hA := HI10.out.box
        have s0 := obj_cell hA 0
        have s1 := obj_cell hA 1
        have s2 := obj_cell hA 2
        simp at s0 s1 s2
        clear hA
        have HAL := Lib.hid (below_alloc w10 (.cells #[.int .i64 0, .int .i64 0, .int .i64 0, .int .i64 0, .int .i64 0] 3))
        have HRT : Hid (ListAt intC 1 (w10.alloc (.cells #[.int .i64 0, .int .i64 0, .int .i64 0, .int .i64 0, .int .i64 0] 3)) (.slice (some ⟨w10.heap.size, 0, none⟩) 5 5) [0, 0, 0, 0, 0]) := Lib.hid (list_new intF w10 [0, 0, 0, 0, 0] 3)
        have HP5 := Lib.hid (HPJ.out _ _ _ _ 0 _ _ (HI10.out.reg.below HAL.out) HRT.out (by omega) (by decide) z5_ok)
        go_wp2_with fail
        refine HP5.out.mono ?_
        rintro e w11 ⟨u, rfl, ho, hb11⟩
        have HI11 := Lib.hid ((HI10.out.below HAL.out).below hb11)
        have ho5 : w11.ownsRow (w10.alloc (.cells #[.int .i64 0, .int .i64 0, .int .i64 0, .int .i64 0, .int .i64 0] 3)).heap.size 38 4 u 5 (cellsL srvC (projL (olR [a, b]) 0 [0, 0, 0, 0, 0] 5)) := ho
        have hl5 : ListAt srvC 4 w11 u (projL (olR [a, b]) 0 [0, 0, 0, 0, 0] 5) := ListAt.owns (by rw [projL_len]; exact ho5)
        obtain ⟨ao, cl, rfl, hcl, hsh⟩ := hl5.shape srvF
        rw [projL_len] at hcl ⊢
        obtain ⟨bl, ol, rfl, hbl, hcc⟩ := hsh (by rw [projL_len]; omega)
        have HC5 : Hid (∀ W k, Below w11.heap.size w11 W → k < 5 → W.cell? ⟨bl, ol + k * 4 + 1, none⟩ = some (.int .i64 (cpnM (olR [a, b]) (k : Int)))) := Lib.hid fun W k hW hk => by
          have := hcc k (by rw [projL_len]; exact hk) 1 (by omega)
          rw [hW.cell hbl, this, projL_get]
          show some (Value.int .i64 (srvM (olR [a, b]) 0 [0, 0, 0, 0, 0] k).int) = _
          rw [srv_flat _ _ z5_at, Int.zero_add]
        clear ho ho5 hl5 hsh hcc hbl hb11 HP5 HRT HAL HI10 s0 s1 s2
        have hA := HI11.out.box
        have s0 := obj_cell hA 0
        have s1 := obj_cell hA 1
        have s2 := obj_cell hA 2
        simp at s0 s1 s2
        clear hA
        have HAL := Lib.hid (below_alloc w11 (.cells #[.int .i64 0, .int .i64 0, .int .i64 0] 3))
        have HRT : Hid (ListAt intC 1 (w11.alloc (.cells #[.int .i64 0, .int .i64 0, .int .i64 0] 3)) (.slice (some ⟨w11.heap.size, 0, none⟩) 3 3) [0, 0, 0]) := Lib.hid (list_new intF w11 [0, 0, 0] 3)
        have HP3 := Lib.hid (HPJ.out _ _ _ _ 2 _ _ (HI11.out.reg.below HAL.out) HRT.out (by omega) (by decide) z3_ok)
        go_wp2_with fail
        refine HP3.out.mono ?_
        rintro e w12 ⟨u, rfl, ho, hb12⟩
        have HI12 := Lib.hid ((HI11.out.below HAL.out).below hb12)
        have HB12 := Lib.hid (HAL.out.trans (hb12.mono HAL.out.size))
        have ho3 : w12.ownsRow (w11.alloc (.cells #[.int .i64 0, .int .i64 0, .int .i64 0] 3)).heap.size 38 4 u 3 (cellsL srvC (projL (olR [a, b]) 2 [0, 0, 0] 3)) := ho
        have hl3 : ListAt srvC 4 w12 u (projL (olR [a, b]) 2 [0, 0, 0] 3) := ListAt.owns (by rw [projL_len]; exact ho3)
        obtain ⟨ao, cm, rfl, hcm, hsh⟩ := hl3.shape srvF
        rw [projL_len] at hcm ⊢
        obtain ⟨bm, om, rfl, hbm, hcc⟩ := hsh (by rw [projL_len]; omega)
        have HC3 : Hid (∀ W k, Below w12.heap.size w12 W → k < 3 → W.cell? ⟨bm, om + k * 4, none⟩ = some (.int .i64 ((k + 2 : Nat) : Int)) ∧ W.cell? ⟨bm, om + k * 4 + 1, none⟩ = some (.int .i64 (cpnM (olR [a, b]) ((k + 2 : Nat) : Int)))) := Lib.hid fun W k hW hk => by
          have h0 := hcc k (by rw [projL_len]; exact hk) 0 (by omega)
          have h1 := hcc k (by rw [projL_len]; exact hk) 1 (by omega)
          rw [Nat.add_zero] at h0
          rw [hW.cell hbm, hW.cell hbm, h0, h1, projL_get]
          have e2 : (2 : Int) + (k : Int) = ((k + 2 : Nat) : Int) := by omega
          refine ⟨?_, ?_⟩
          · show some (Value.int .i64 ((2 : Int) + (k : Int))) = _
            rw [e2]
          · show some (Value.int .i64 (srvM (olR [a, b]) 2 [0, 0, 0] k).int) = _
            rw [srv_flat _ _ z3_at, e2]
        clear ho ho3 hl3 hsh hcc hbm hb12 HP3 HRT HAL HI11 HPJ s0 s1 s2
        go_wp2
        go_loopw [103] (fun iv wr => ∃ k : Nat, iv = .int .i64 (k : Int) ∧ k ≤ 3 ∧ Hid (Below w12.heap.size w12 wr)) (fun iv _ => 3 - (RowKit.intOf iv).toNat)
        case atStart => exact ⟨0, rfl, by omega, Lib.hid (Below.refl _ _)⟩
        case round =>
          obtain ⟨k, rfl, hkm, HBW⟩ := hrel
          by_cases hlk : k < 3
          · obtain ⟨j, hj⟩ : ∃ j : Nat, j = k + 2 := ⟨_, rfl⟩
            obtain ⟨xq, hxq⟩ : ∃ q, q = cpnM (olR [a, b]) (j : Int) := ⟨_, rfl⟩
            have HCM : Hid (∀ W, Below wr.heap.size wr W → W.cell? ⟨bm, om + k * 4, none⟩ = some (.int .i64 (j : Int)) ∧ W.cell? ⟨bm, om + k * 4 + 1, none⟩ = some (.int .i64 xq) ∧ W.cell? ⟨bl, ol + j * 4 + 1, none⟩ = some (.int .i64 xq)) := Lib.hid fun W hW => by
              have h12 := HBW.out.trans (hW.mono HBW.out.size)
              obtain ⟨h1, h2⟩ := HC3.out W k h12 hlk
              have h3 := HC5.out W j (HB12.out.trans (h12.mono HB12.out.size)) (by omega)
              rw [← hj] at h1 h2
              rw [← hxq] at h2 h3
              exact ⟨h1, h2, h3⟩
            have hwk : IntKind.i64.wrap ((k : Int) + 1) = (k : Int) + 1 := IntWalk.i64_in _ (by omega)
            have hwj : IntKind.i64.wrap ((k : Int) + 2) = (j : Int) := by rw [show (k : Int) + 2 = (j : Int) by omega]; exact IntWalk.i64_in _ (by omega)
            have hk0 : (0 : Int) ≤ (k : Int) := by omega
            have hk1 : (k : Int) < 3 := by omega
            have hj0 : (0 : Int) ≤ (j : Int) := by omega
            have hj1 : (j : Int) < 5 := by omega
            clear hxq hj
            go_upto_region 18 with fail
            obtain ⟨J, hJ⟩ : ∃ J, J = fun W : World => Below wr.heap.size wr W := ⟨_, rfl⟩
            have HJO : Hid (∀ W, J W → Below wr.heap.size wr W) := Lib.hid fun W hW => by rw [hJ] at hW; exact hW
            have HJI : Hid (∀ W, Below wr.heap.size wr W → J W) := Lib.hid fun W hW => by rw [hJ]; exact hW
            have HJD : Hid (∀ W, J W → J W.drew) := Lib.hid fun W hW => HJI.out _ ((HJO.out W hW).drew)
            have HJ0 : Hid (J wr) := Lib.hid (HJI.out _ (Below.refl _ _))
            have HM0 : Hid (∀ W, J W → W.cell? ⟨bm, om + k * 4, none⟩ = some (.int .i64 (j : Int))) := Lib.hid fun W hW => (HCM.out W (HJO.out W hW)).1
            have HM1 : Hid (∀ W, J W → W.cell? ⟨bm, om + k * 4 + 1, none⟩ = some (.int .i64 xq)) := Lib.hid fun W hW => (HCM.out W (HJO.out W hW)).2.1
            have HL1 : Hid (∀ W, J W → W.cell? ⟨bl, ol + j * 4 + 1, none⟩ = some (.int .i64 xq)) := Lib.hid fun W hW => (HCM.out W (HJO.out W hW)).2.2
            clear hJ HJI HCM
            go_cut [127] (fun gv wx => gv = .bool false ∧ Hid (J wx))
            case first =>
              refine wp_region_props [106, 107, 108, 109, 110, 111, 112, 113, 114, 115, 116, 117, 118, 119, 120, 121, 122, 123, 124, 125, 126, 127] (slotS [106, 107, 108, 109, 110, 111, 112, 113, 114, 115, 116, 117, 118, 119, 120, 121, 122, 123, 124, 125, 126, 127]) (readsS [106, 107, 108, 109, 110, 111, 112, 113, 114, 115, 116, 117, 118, 119, 120, 121, 122, 123, 124, 125, 126, 127]) (RTs [106, 107, 108, 109, 110, 111, 112, 113, 114, 115, 116, 117, 118, 119, 120, 121, 122, 123, 124, 125, 126, 127] [.slice (some ⟨bm, om, none⟩) 3 cm, .int .i64 (k : Int), .pointer (some ⟨bm, om + k * 4, none⟩), .pointer (some ⟨bm, om + k * 4 + 1, none⟩), .int .i64 xq, .slice (some ⟨bl, ol, none⟩) 5 cl, .int .i64 (k : Int), .int .i64 (j : Int), .pointer (some ⟨bl, ol + j * 4, none⟩), .pointer (some ⟨bl, ol + j * 4 + 1, none⟩), .int .i64 xq, .bool false, .bool false, .slice (some ⟨bm, om, none⟩) 3 cm, .int .i64 (k : Int), .pointer (some ⟨bm, om + k * 4, none⟩), .pointer (some ⟨bm, om + k * 4, none⟩), .int .i64 (j : Int), .int .i64 (k : Int), .int .i64 (j : Int), .bool false, .bool false]) J (by kernel_rfl) (by kernel_rfl) (by kernel_rfl) (HJD.out _ HJ0.out) (fun j f q v W hq h => RTs.upd hq h) ?_ ?_
              case refine_1 =>
                intro iq hiq f W hIW hdep
                have hiq' : iq < 22 := hiq
                generalize ha1 : putsL _ [106, 107, 108, 109, 110, 111, 112, 113, 114, 115, 116, 117, 118, 119, 120, 121, 122, 123, 124, 125, 126, 127] f = a1
                match iq, hiq', hdep with
                | 0, _, hdep =>
                  have E16 : a1.tmps[16]?.getD undef = .slice (some ⟨bm, om, none⟩) 3 cm := by rw [← ha1]; exact (putsL_out2 _ _ _ _ (by decide)).trans rfl
                  exact wpOp_val rfl rfl (v := .slice (some ⟨bm, om, none⟩) 3 cm) (w' := W) (by simp [execOp, go_sem, E16]) ⟨hIW, fun _ h => h, Or.inl ⟨_, by decide, rfl, updF_same _ _ _⟩⟩
                | 1, _, hdep =>
                  have E18 : a1.tmps[18]?.getD undef = .int .i64 (k : Int) := by rw [← ha1]; exact (putsL_out2 _ _ _ _ (by decide)).trans rfl
                  exact wpOp_val rfl rfl (v := .int .i64 (k : Int)) (w' := W) (by simp [execOp, go_sem, E18]) ⟨hIW, fun _ h => h, Or.inl ⟨_, by decide, rfl, updF_same _ _ _⟩⟩
                | 2, _, hdep =>
                  have E106 : a1.tmps[106]?.getD undef = .slice (some ⟨bm, om, none⟩) 3 cm := by rw [← ha1]; exact (putsL_in2 _ _ _ _ (by decide) (show 106 < 148 from by decide)).trans (hdep 0 (by kernel_rfl))
                  have E107 : a1.tmps[107]?.getD undef = .int .i64 (k : Int) := by rw [← ha1]; exact (putsL_in2 _ _ _ _ (by decide) (show 107 < 148 from by decide)).trans (hdep 1 (by kernel_rfl))
                  exact wpOp_val rfl rfl (v := .pointer (some ⟨bm, om + k * 4, none⟩)) (w' := W) (by simp [execOp, go_sem, E106, E107, hk0, hk1]) ⟨hIW, fun _ h => h, Or.inl ⟨_, by decide, rfl, updF_same _ _ _⟩⟩
                | 3, _, hdep =>
                  have E108 : a1.tmps[108]?.getD undef = .pointer (some ⟨bm, om + k * 4, none⟩) := by rw [← ha1]; exact (putsL_in2 _ _ _ _ (by decide) (show 108 < 148 from by decide)).trans (hdep 2 (by kernel_rfl))
                  exact wpOp_val rfl rfl (v := .pointer (some ⟨bm, om + k * 4 + 1, none⟩)) (w' := W) (by simp [execOp, go_sem, E108]) ⟨hIW, fun _ h => h, Or.inl ⟨_, by decide, rfl, updF_same _ _ _⟩⟩
                | 4, _, hdep =>
                  have E109 : a1.tmps[109]?.getD undef = .pointer (some ⟨bm, om + k * 4 + 1, none⟩) := by rw [← ha1]; exact (putsL_in2 _ _ _ _ (by decide) (show 109 < 148 from by decide)).trans (hdep 3 (by kernel_rfl))
                  have v1 := HM1.out W hIW
                  exact wpOp_val rfl rfl (v := .int .i64 xq) (w' := W) (by simp [execOp, go_sem, E109, v1]) ⟨hIW, fun _ h => h, Or.inl ⟨_, by decide, rfl, updF_same _ _ _⟩⟩
                | 5, _, hdep =>
                  have E14 : a1.tmps[14]?.getD undef = .slice (some ⟨bl, ol, none⟩) 5 cl := by rw [← ha1]; exact (putsL_out2 _ _ _ _ (by decide)).trans rfl
                  exact wpOp_val rfl rfl (v := .slice (some ⟨bl, ol, none⟩) 5 cl) (w' := W) (by simp [execOp, go_sem, E14]) ⟨hIW, fun _ h => h, Or.inl ⟨_, by decide, rfl, updF_same _ _ _⟩⟩
                | 6, _, hdep =>
                  have E18 : a1.tmps[18]?.getD undef = .int .i64 (k : Int) := by rw [← ha1]; exact (putsL_out2 _ _ _ _ (by decide)).trans rfl
                  exact wpOp_val rfl rfl (v := .int .i64 (k : Int)) (w' := W) (by simp [execOp, go_sem, E18]) ⟨hIW, fun _ h => h, Or.inl ⟨_, by decide, rfl, updF_same _ _ _⟩⟩
                | 7, _, hdep =>
                  have E112 : a1.tmps[112]?.getD undef = .int .i64 (k : Int) := by rw [← ha1]; exact (putsL_in2 _ _ _ _ (by decide) (show 112 < 148 from by decide)).trans (hdep 6 (by kernel_rfl))
                  exact wpOp_val rfl rfl (v := .int .i64 (j : Int)) (w' := W) (by simp [execOp, go_sem, E112, hwj]) ⟨hIW, fun _ h => h, Or.inl ⟨_, by decide, rfl, updF_same _ _ _⟩⟩
                | 8, _, hdep =>
                  have E111 : a1.tmps[111]?.getD undef = .slice (some ⟨bl, ol, none⟩) 5 cl := by rw [← ha1]; exact (putsL_in2 _ _ _ _ (by decide) (show 111 < 148 from by decide)).trans (hdep 5 (by kernel_rfl))
                  have E113 : a1.tmps[113]?.getD undef = .int .i64 (j : Int) := by rw [← ha1]; exact (putsL_in2 _ _ _ _ (by decide) (show 113 < 148 from by decide)).trans (hdep 7 (by kernel_rfl))
                  exact wpOp_val rfl rfl (v := .pointer (some ⟨bl, ol + j * 4, none⟩)) (w' := W) (by simp [execOp, go_sem, E111, E113, hj0, hj1]) ⟨hIW, fun _ h => h, Or.inl ⟨_, by decide, rfl, updF_same _ _ _⟩⟩
                | 9, _, hdep =>
                  have E114 : a1.tmps[114]?.getD undef = .pointer (some ⟨bl, ol + j * 4, none⟩) := by rw [← ha1]; exact (putsL_in2 _ _ _ _ (by decide) (show 114 < 148 from by decide)).trans (hdep 8 (by kernel_rfl))
                  exact wpOp_val rfl rfl (v := .pointer (some ⟨bl, ol + j * 4 + 1, none⟩)) (w' := W) (by simp [execOp, go_sem, E114]) ⟨hIW, fun _ h => h, Or.inl ⟨_, by decide, rfl, updF_same _ _ _⟩⟩
                | 10, _, hdep =>
                  have E115 : a1.tmps[115]?.getD undef = .pointer (some ⟨bl, ol + j * 4 + 1, none⟩) := by rw [← ha1]; exact (putsL_in2 _ _ _ _ (by decide) (show 115 < 148 from by decide)).trans (hdep 9 (by kernel_rfl))
                  have v1 := HL1.out W hIW
                  exact wpOp_val rfl rfl (v := .int .i64 xq) (w' := W) (by simp [execOp, go_sem, E115, v1]) ⟨hIW, fun _ h => h, Or.inl ⟨_, by decide, rfl, updF_same _ _ _⟩⟩
                | 11, _, hdep =>
                  have E110 : a1.tmps[110]?.getD undef = .int .i64 xq := by rw [← ha1]; exact (putsL_in2 _ _ _ _ (by decide) (show 110 < 148 from by decide)).trans (hdep 4 (by kernel_rfl))
                  have E116 : a1.tmps[116]?.getD undef = .int .i64 xq := by rw [← ha1]; exact (putsL_in2 _ _ _ _ (by decide) (show 116 < 148 from by decide)).trans (hdep 10 (by kernel_rfl))
                  exact wpOp_val rfl rfl (v := .bool false) (w' := W) (by simp [execOp, go_sem, E110, E116]) ⟨hIW, fun _ h => h, Or.inl ⟨_, by decide, rfl, updF_same _ _ _⟩⟩
                | 12, _, hdep =>
                  have E117 : a1.tmps[117]?.getD undef = .bool false := by rw [← ha1]; exact (putsL_in2 _ _ _ _ (by decide) (show 117 < 148 from by decide)).trans (hdep 11 (by kernel_rfl))
                  exact wpOp_val rfl rfl (v := .bool false) (w' := W) (by simp [execOp, go_sem, E117]) ⟨hIW, fun _ h => h, Or.inl ⟨_, by decide, rfl, updF_same _ _ _⟩⟩
                | 13, _, hdep =>
                  have G12 : a1.tmps[118]? = some (.bool false) := by rw [← ha1]; exact (putsL_some _ _ _ _ (by decide) (show 118 < 148 from by decide)).trans (congrArg some (hdep 12 (by kernel_rfl)))
                  have E16 : a1.tmps[16]?.getD undef = .slice (some ⟨bm, om, none⟩) 3 cm := by rw [← ha1]; exact (putsL_out2 _ _ _ _ (by decide)).trans rfl
                  exact wpOp_valG rfl rfl (yielded_of rfl G12) (v := .slice (some ⟨bm, om, none⟩) 3 cm) (w' := W) (by simp [execOp, go_sem, E16]) ⟨hIW, fun _ h => h, Or.inl ⟨_, by decide, rfl, updF_same _ _ _⟩⟩
                | 14, _, hdep =>
                  have G12 : a1.tmps[118]? = some (.bool false) := by rw [← ha1]; exact (putsL_some _ _ _ _ (by decide) (show 118 < 148 from by decide)).trans (congrArg some (hdep 12 (by kernel_rfl)))
                  have E18 : a1.tmps[18]?.getD undef = .int .i64 (k : Int) := by rw [← ha1]; exact (putsL_out2 _ _ _ _ (by decide)).trans rfl
                  exact wpOp_valG rfl rfl (yielded_of rfl G12) (v := .int .i64 (k : Int)) (w' := W) (by simp [execOp, go_sem, E18]) ⟨hIW, fun _ h => h, Or.inl ⟨_, by decide, rfl, updF_same _ _ _⟩⟩
                | 15, _, hdep =>
                  have G12 : a1.tmps[118]? = some (.bool false) := by rw [← ha1]; exact (putsL_some _ _ _ _ (by decide) (show 118 < 148 from by decide)).trans (congrArg some (hdep 12 (by kernel_rfl)))
                  have E119 : a1.tmps[119]?.getD undef = .slice (some ⟨bm, om, none⟩) 3 cm := by rw [← ha1]; exact (putsL_in2 _ _ _ _ (by decide) (show 119 < 148 from by decide)).trans (hdep 13 (by kernel_rfl))
                  have E120 : a1.tmps[120]?.getD undef = .int .i64 (k : Int) := by rw [← ha1]; exact (putsL_in2 _ _ _ _ (by decide) (show 120 < 148 from by decide)).trans (hdep 14 (by kernel_rfl))
                  exact wpOp_valG rfl rfl (yielded_of rfl G12) (v := .pointer (some ⟨bm, om + k * 4, none⟩)) (w' := W) (by simp [execOp, go_sem, E119, E120, hk0, hk1]) ⟨hIW, fun _ h => h, Or.inl ⟨_, by decide, rfl, updF_same _ _ _⟩⟩
                | 16, _, hdep =>
                  have G12 : a1.tmps[118]? = some (.bool false) := by rw [← ha1]; exact (putsL_some _ _ _ _ (by decide) (show 118 < 148 from by decide)).trans (congrArg some (hdep 12 (by kernel_rfl)))
                  have E121 : a1.tmps[121]?.getD undef = .pointer (some ⟨bm, om + k * 4, none⟩) := by rw [← ha1]; exact (putsL_in2 _ _ _ _ (by decide) (show 121 < 148 from by decide)).trans (hdep 15 (by kernel_rfl))
                  exact wpOp_valG rfl rfl (yielded_of rfl G12) (v := .pointer (some ⟨bm, om + k * 4, none⟩)) (w' := W) (by simp [execOp, go_sem, E121]) ⟨hIW, fun _ h => h, Or.inl ⟨_, by decide, rfl, updF_same _ _ _⟩⟩
                | 17, _, hdep =>
                  have G12 : a1.tmps[118]? = some (.bool false) := by rw [← ha1]; exact (putsL_some _ _ _ _ (by decide) (show 118 < 148 from by decide)).trans (congrArg some (hdep 12 (by kernel_rfl)))
                  have E122 : a1.tmps[122]?.getD undef = .pointer (some ⟨bm, om + k * 4, none⟩) := by rw [← ha1]; exact (putsL_in2 _ _ _ _ (by decide) (show 122 < 148 from by decide)).trans (hdep 16 (by kernel_rfl))
                  have v1 := HM0.out W hIW
                  exact wpOp_valG rfl rfl (yielded_of rfl G12) (v := .int .i64 (j : Int)) (w' := W) (by simp [execOp, go_sem, E122, v1]) ⟨hIW, fun _ h => h, Or.inl ⟨_, by decide, rfl, updF_same _ _ _⟩⟩
                | 18, _, hdep =>
                  have G12 : a1.tmps[118]? = some (.bool false) := by rw [← ha1]; exact (putsL_some _ _ _ _ (by decide) (show 118 < 148 from by decide)).trans (congrArg some (hdep 12 (by kernel_rfl)))
                  have E18 : a1.tmps[18]?.getD undef = .int .i64 (k : Int) := by rw [← ha1]; exact (putsL_out2 _ _ _ _ (by decide)).trans rfl
                  exact wpOp_valG rfl rfl (yielded_of rfl G12) (v := .int .i64 (k : Int)) (w' := W) (by simp [execOp, go_sem, E18]) ⟨hIW, fun _ h => h, Or.inl ⟨_, by decide, rfl, updF_same _ _ _⟩⟩
                | 19, _, hdep =>
                  have G12 : a1.tmps[118]? = some (.bool false) := by rw [← ha1]; exact (putsL_some _ _ _ _ (by decide) (show 118 < 148 from by decide)).trans (congrArg some (hdep 12 (by kernel_rfl)))
                  have E124 : a1.tmps[124]?.getD undef = .int .i64 (k : Int) := by rw [← ha1]; exact (putsL_in2 _ _ _ _ (by decide) (show 124 < 148 from by decide)).trans (hdep 18 (by kernel_rfl))
                  exact wpOp_valG rfl rfl (yielded_of rfl G12) (v := .int .i64 (j : Int)) (w' := W) (by simp [execOp, go_sem, E124, hwj]) ⟨hIW, fun _ h => h, Or.inl ⟨_, by decide, rfl, updF_same _ _ _⟩⟩
                | 20, _, hdep =>
                  have G12 : a1.tmps[118]? = some (.bool false) := by rw [← ha1]; exact (putsL_some _ _ _ _ (by decide) (show 118 < 148 from by decide)).trans (congrArg some (hdep 12 (by kernel_rfl)))
                  have E123 : a1.tmps[123]?.getD undef = .int .i64 (j : Int) := by rw [← ha1]; exact (putsL_in2 _ _ _ _ (by decide) (show 123 < 148 from by decide)).trans (hdep 17 (by kernel_rfl))
                  have E125 : a1.tmps[125]?.getD undef = .int .i64 (j : Int) := by rw [← ha1]; exact (putsL_in2 _ _ _ _ (by decide) (show 125 < 148 from by decide)).trans (hdep 19 (by kernel_rfl))
                  exact wpOp_valG rfl rfl (yielded_of rfl G12) (v := .bool false) (w' := W) (by simp [execOp, go_sem, E123, E125]) ⟨hIW, fun _ h => h, Or.inl ⟨_, by decide, rfl, updF_same _ _ _⟩⟩
                | 21, _, hdep =>
                  have E118 : a1.tmps[118]?.getD undef = .bool false := by rw [← ha1]; exact (putsL_in2 _ _ _ _ (by decide) (show 118 < 148 from by decide)).trans (hdep 12 (by kernel_rfl))
                  have E126 : a1.tmps[126]?.getD undef = .bool false := by rw [← ha1]; exact (putsL_in2 _ _ _ _ (by decide) (show 126 < 148 from by decide)).trans (hdep 20 (by kernel_rfl))
                  exact wpOp_val rfl rfl (v := .bool false) (w' := W) (by simp [execOp, go_sem, E118, E126]) ⟨hIW, fun _ h => h, Or.inl ⟨_, by decide, rfl, updF_same _ _ _⟩⟩
                | iq + 22, h, _ => exact absurd h (by omega)
              case refine_2 =>
                intro f W hIW hR
                have h127 : f 127 = .bool false := hR 21 (show 21 < 22 from by decide)
                simp only [putsL, List.foldl_cons, List.foldl_nil, Act.put, List.setIfInBounds_toArray, List.set_cons_zero, List.set_cons_succ]
                go_wp2
                go_meet
                exact ⟨(by first | exact h127 | rfl), Lib.hid hIW⟩
            case rest =>
              obtain ⟨rfl, HJ9⟩ := hcut
              have HBN := Lib.hid (HBW.out.trans ((HJO.out _ HJ9.out).mono HBW.out.size))
              clear HJ9 HJO HJD HJ0 HM0 HM1 HL1
              go_wp2
              go_roundw
              case rel => exact ⟨k + 1, by first | rfl | go_num, by omega, HBN⟩
              case measure => simp [RowKit.intOf]; omega
          · obtain rfl : k = 3 := by omega
            have HEND : Hid (∀ W, Below wr.heap.size wr W → Below w.heap.size w W) := Lib.hid fun W hW => HFIN.out _ (HI12.out.below (HBW.out.trans (hW.mono HBW.out.size))).si
            obtain ⟨p1, hp1⟩ : ∃ p, p = zN * sD := ⟨_, rfl⟩
            obtain ⟨p2, hp2⟩ : ∃ p, p = sN * b := ⟨_, rfl⟩
            have hm1 : 0 ≤ p1 ∧ p1 ≤ 7150000 * 10000 := by rw [hp1]; exact ⟨Int.mul_nonneg hzN0.1 (by omega), Int.mul_le_mul hzN0.2 hsD0.2 (by omega) (by omega)⟩
            have hm2 : 0 ≤ p2 ∧ p2 ≤ 10700000 * 5000 := by rw [hp2]; exact ⟨Int.mul_nonneg hsN0.1 (by omega), Int.mul_le_mul hsN0.2 hb.2 (by omega) (by omega)⟩
            rw [← hp1, ← hp2] at hlong
            have hw1 : IntKind.i64.wrap (zN * sD) = p1 := by rw [← hp1]; exact IntWalk.i64_in _ (by omega)
            have hw2 : IntKind.i64.wrap (sN * b) = p2 := by rw [← hp2]; exact IntWalk.i64_in _ (by omega)
            have hb0 : 0 < b := by omega
            have hbs := hsD0.1
            clear hp1 hp2 hm1 hm2
            go_wp2_with fail
            refine (HSN.out _).mono ?_
            rintro e w13 ⟨rfl, hb13⟩
            have HE := Lib.hid (HEND.out _ hb13)
            clear hb13
            go_wp2
            go_ret
            exact ⟨rfl, HE.out⟩

end Go.Proofs.Ytblidmkkbcobgaa
