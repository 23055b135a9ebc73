/- Texts of one claim, merged: CmpI, RhS, RhB, InsM, InsK. -/
import Derived.Test.YtblidmkkbcobgaaMG1
import Derived.Deep.RegionHeld3
import Derived.Deep.DeepCutAuto
import Derived.IntWalk
import Derived.Laws.CopyRow
import Derived.Lib.AppendZeros
import Derived.Lib.AppendZerosOnto
import Derived.Lib.Overlaps
import Derived.Laws.Externs
import Derived.Lib.JoinLaws
import Derived.Shelf.Spec.SlicesInsert
import Derived.Laws.CopyOwn
/- The contract of Go's cmp.Compare for ints. -/
set_option linter.unusedSimpArgs false
set_option linter.unusedVariables false
namespace Go.Proofs.Ytblidmkkbcobgaa
open Go.RowKit Go.Lib Go.Proofs

def cmpI (a b : Int) : Int := if a < b then -1 else if b < a then 1 else 0

set_option maxHeartbeats 400000 in
theorem cmpNaN_no (a : Int) (w : World) : Calls Try.prog 112 #[.int .i64 a] w fun e w' => e = .returned (.bool false) ∧ w = w' := by
  go_enter Try.func112, Try.ntmps112
  go_wp2
  go_ret
  exact ⟨rfl, rfl⟩

set_option maxHeartbeats 1000000 in
theorem cmpInt_any (a b : Int) (w : World) : Calls Try.prog 77 #[.int .i64 a, .int .i64 b] w fun e w' => e = .returned (.int .i64 (cmpI a b)) ∧ w = w' := by
  have HN := Lib.hid cmpNaN_no
  rcases Int.lt_trichotomy a b with h | h | h
  · have hc : cmpI a b = -1 := if_pos h
    rw [hc]
    clear hc
    go_enter Try.func77, Try.ntmps77
    go_wp2_with (go_at_call 112; refine (HN.out _ _).mono ?_; rintro e w' ⟨rfl, rfl⟩)
    go_ret
    exact ⟨rfl, rfl⟩
  · have hc : cmpI a b = 0 := by unfold cmpI; rw [if_neg (by omega), if_neg (by omega)]
    rw [hc]
    clear hc
    subst h
    go_enter Try.func77, Try.ntmps77
    go_wp2_with (go_at_call 112; refine (HN.out _ _).mono ?_; rintro e w' ⟨rfl, rfl⟩)
    go_ret
    exact ⟨rfl, rfl⟩
  · have hc : cmpI a b = 1 := by unfold cmpI; rw [if_neg (by omega), if_pos h]
    rw [hc]
    clear hc
    have h2 : ¬ a < b := by omega
    go_enter Try.func77, Try.ntmps77
    go_wp2_with (go_at_call 112; refine (HN.out _ _).mono ?_; rintro e w' ⟨rfl, rfl⟩)
    go_ret
    exact ⟨rfl, rfl⟩

end Go.Proofs.Ytblidmkkbcobgaa

/- cmp.Or of two ints; the order of holdings. -/
set_option linter.unusedSimpArgs false
set_option linter.unusedVariables false
namespace Go.Proofs.Ytblidmkkbcobgaa
open Go.RowKit Go.Lib Go.Proofs

/-- The first one that is not zero. -/
def or2 (a b : Int) : Int := if a ≠ 0 then a else b

set_option maxHeartbeats 2000000 in
theorem cmpOr2_any (a b : Int) (g cap : Nat) (w : World) (h0 : w.cell? ⟨g, 0, none⟩ = some (.int .i64 a)) (h1 : w.cell? ⟨g, 1, none⟩ = some (.int .i64 b)) :
    Calls Try.prog 76 #[.slice (some ⟨g, 0, none⟩) 2 cap] w fun e w' => e = .returned (.int .i64 (or2 a b)) ∧ Below w.heap.size w w' := by
  obtain ⟨q, hq⟩ : ∃ q, q = or2 a b := ⟨_, rfl⟩
  have HQ := Lib.hid hq
  rw [← hq]
  clear hq
  go_enter Try.func76, Try.ntmps76
  go_wp2
  go_loopw [8] (fun iv wr => ∃ (k : Nat), iv = .int .i64 (k : Int) ∧ k ≤ 2 ∧ Hid ((0 < k → a = 0) ∧ (1 < k → b = 0)) ∧ wr = w) (fun iv _ => 2 - (RowKit.intOf iv).toNat)
  case atStart => exact ⟨0, rfl, by omega, Lib.hid ⟨by omega, by omega⟩, rfl⟩
  case round =>
    obtain ⟨k, rfl, hk, HZ, rfl⟩ := hrel
    by_cases hlt : k < 2
    · obtain ⟨x, hx, hxq⟩ : ∃ x, wr.cell? ⟨g, k, none⟩ = some (.int .i64 x) ∧ Hid ((x ≠ 0 → x = q) ∧ (x = 0 → (0 < k + 1 → a = 0) ∧ (1 < k + 1 → b = 0))) := by
        have hz := HZ.out
        have hqq := HQ.out
        unfold or2 at hqq
        rcases (show k = 0 ∨ k = 1 by omega) with rfl | rfl
        · refine ⟨a, h0, Lib.hid ⟨fun h => ?_, fun h => ⟨fun _ => h, by omega⟩⟩⟩
          rw [if_pos h] at hqq; exact hqq.symm
        · have ha := hz.1 (by omega)
          refine ⟨b, h1, Lib.hid ⟨fun h => ?_, fun h => ⟨fun _ => ha, fun _ => h⟩⟩⟩
          rw [if_neg (by omega)] at hqq; exact hqq.symm
      have hki : (k : Int) < 2 := by omega
      have hk0 : (0 : Int) ≤ (k : Int) := by omega
      clear h0 h1
      by_cases hz : x = 0
      · subst hz
        go_wp2
        go_roundw
        case rel => exact ⟨k + 1, by first | rfl | go_num, by omega, Lib.hid (hxq.out.2 rfl), by first | trivial | rfl⟩
        case measure => simp [RowKit.intOf]; omega
      · have hxe := hxq.out.1 hz
        subst hxe
        go_wp2
        go_ret
        exact ⟨rfl, Below.refl _ _⟩
    · obtain rfl : k = 2 := by omega
      have hz := HZ.out
      have hqq := HQ.out
      unfold or2 at hqq
      rw [if_neg (by have := hz.1 (by omega); omega), hz.2 (by omega)] at hqq
      subst hqq
      clear h0 h1
      go_wp2
      go_ret
      exact ⟨rfl, Below.refl _ _⟩

/-- The order of holdings: by security, by holder. -/
def hldCmp (x y : Hld) : Int := or2 (cmpI x.sec y.sec) (cmpI x.who y.who)
theorem hldCmp_lt {x y : Hld} : hldCmp x y < 0 ↔ hlt x y := by
  unfold hldCmp or2 cmpI hlt
  repeat' split
  all_goals first | omega | (constructor <;> omega)
theorem hldCmp_eq {x y : Hld} : hldCmp x y = 0 ↔ (x.sec = y.sec ∧ x.who = y.who) := by
  unfold hldCmp or2 cmpI
  repeat' split
  all_goals first | omega | (constructor <;> omega)

set_option maxHeartbeats 4000000 in
theorem rxcompare_any (x y : Hld) (w : World) : Calls Try.prog 143 #[.agg (hldC x).toArray, .agg (hldC y).toArray] w fun e w' => e = .returned (.int .i64 (hldCmp x y)) ∧ Below w.heap.size w w' := by
  obtain ⟨a, b, c⟩ := x
  obtain ⟨p, q, r⟩ := y
  simp only [hldC]
  have HC := Lib.hid (fun x y W => cmpInt_any x y W)
  have HB := Lib.hid (below2 w (.cells #[.int .i64 a, .int .i64 b, .int .i64 c] 53) (.cells #[.int .i64 p, .int .i64 q, .int .i64 r] 53))
  unfold hldCmp
  simp only
  obtain ⟨u1, hu1⟩ : ∃ u, u = cmpI a p := ⟨_, rfl⟩
  obtain ⟨u2, hu2⟩ : ∃ u, u = cmpI b q := ⟨_, rfl⟩
  rw [← hu1, ← hu2]
  have H1 := Lib.hid (fun W => HC.out a p W)
  have H2 := Lib.hid (fun W => HC.out b q W)
  rw [← hu1] at H1
  rw [← hu2] at H2
  clear hu1 hu2 HC
  have HOR := Lib.hid (fun (W : World) => cmpOr2_any u1 u2 W.heap.size 2 (W.alloc (.cells #[.int .i64 u1, .int .i64 u2] 3)).drew (obj_cell (heap_alloc_new _ _) 0) (obj_cell (heap_alloc_new _ _) 1))
  obtain ⟨W0, hW0⟩ : ∃ W0, W0 = (w.alloc (.cells #[.int .i64 a, .int .i64 b, .int .i64 c] 53)).alloc (.cells #[.int .i64 p, .int .i64 q, .int .i64 r] 53) := ⟨_, rfl⟩
  have A1 : W0.heap[w.heap.size]? = some (.cells #[.int .i64 a, .int .i64 b, .int .i64 c] 53 (0, 0)) := by rw [hW0]; exact alloc1_at w _ _
  have A2 : W0.heap[w.heap.size + 1]? = some (.cells #[.int .i64 p, .int .i64 q, .int .i64 r] 53 (0, 0)) := by rw [hW0]; exact alloc2_at w _ _
  have hc0 : W0.cell? ⟨w.heap.size, 0, none⟩ = some (.int .i64 a) ∧ W0.cell? ⟨w.heap.size, 1, none⟩ = some (.int .i64 b) ∧ W0.cell? ⟨w.heap.size + 1, 0, none⟩ = some (.int .i64 p) ∧ W0.cell? ⟨w.heap.size + 1, 1, none⟩ = some (.int .i64 q) := ⟨obj_cell A1 0, obj_cell A1 1, obj_cell A2 0, obj_cell A2 1⟩
  have HCA : Hid (∀ W, Below W0.heap.size W0 W → W.cell? ⟨w.heap.size, 0, none⟩ = some (.int .i64 a) ∧ W.cell? ⟨w.heap.size, 1, none⟩ = some (.int .i64 b) ∧ W.cell? ⟨w.heap.size + 1, 0, none⟩ = some (.int .i64 p) ∧ W.cell? ⟨w.heap.size + 1, 1, none⟩ = some (.int .i64 q)) := Lib.hid fun W hW => by
    have B1 := (hW.block _ (obj_lt A1)).trans A1
    have B2 := (hW.block _ (obj_lt A2)).trans A2
    exact ⟨obj_cell B1 0, obj_cell B1 1, obj_cell B2 0, obj_cell B2 1⟩
  have HBA : Hid (Below W0.heap.size W0 (W0.alloc (.cells #[.int .i64 u1, .int .i64 u2] 3)).drew) := Lib.hid ((below_alloc W0 _).drew)
  have HW0 := Lib.hid hW0
  have HB0 : Hid (Below w.heap.size w W0) := Lib.hid (by rw [hW0]; exact HB.out)
  clear HB A1 A2
  go_enter Try.func143, Try.ntmps143
  go_upto_region 1 with fail
  rw [← hW0]
  clear hW0
  go_region_held3 (fun W => W.cell? ⟨w.heap.size, 0, none⟩ = some (.int .i64 a) ∧ W.cell? ⟨w.heap.size, 1, none⟩ = some (.int .i64 b) ∧ W.cell? ⟨w.heap.size + 1, 0, none⟩ = some (.int .i64 p) ∧ W.cell? ⟨w.heap.size + 1, 1, none⟩ = some (.int .i64 q)) (first | exact hc0 | exact HCA.out _ HBA.out | exact HCA.out _ HB9.out) (first
    | (go_at_call 77; (first | with_reducible refine Calls.mono (H1.out _) ?_ | with_reducible refine Calls.mono (H2.out _) ?_); rintro e w' ⟨rfl, rfl⟩)
    | (go_at_call 76; with_reducible refine Calls.mono (HOR.out _) ?_; rintro e w9 ⟨rfl, b9⟩; have HB9 : Hid (Below W0.heap.size W0 w9) := Lib.hid (HBA.out.trans (b9.mono HBA.out.size)); clear b9))
  go_wp2
  go_ret
  exact ⟨rfl, HB0.out.trans (HB9.out.mono HB0.out.size)⟩

end Go.Proofs.Ytblidmkkbcobgaa

/- slices.BinarySearchFunc on ascending holdings. -/
set_option linter.unusedSimpArgs false
set_option linter.unusedVariables false
namespace Go.Proofs.Ytblidmkkbcobgaa
open Go.RowKit Go.Lib Go.Proofs

/-- Where a holding stands, or would stand. -/
structure PosH (l : List Hld) (x : Hld) (i : Nat) : Prop where
  le : i ≤ l.length
  lo : ∀ k (h : k < l.length), k < i → hlt l[k] x
  hi : ∀ k (h : k < l.length), i ≤ k → ¬ hlt l[k] x
def hitH (l : List Hld) (x : Hld) (i : Nat) : Bool := decide (∃ h : i < l.length, hldCmp l[i] x = 0)

theorem asc_get {l : List Hld} (h : l.Pairwise hlt) {i j : Nat} (hi : i < l.length) (hj : j < l.length) (hij : i < j) : hlt l[i] l[j] := List.pairwise_iff_getElem.1 h i j hi hj hij

set_option maxHeartbeats 4000000 in
set_option maxRecDepth 100000 in
theorem bsHld_any (l : List Hld) (x : Hld) (v : Value) (w : World) (hasc : l.Pairwise hlt) (hl : l.length ≤ 1000) (hL : ListAt hldC 3 w v l) :
    Calls Try.prog 142 #[v, .agg (hldC x).toArray, .func (.func 143) #[] #[]] w fun e w' => ∃ i, PosH l x i ∧ e = .returned (.tuple #[.int .i64 (i : Int), .bool (hitH l x i)]) ∧ Below w.heap.size w w' := by
  obtain ⟨ao, cap, rfl, hle, hc⟩ := hL.shape hldF
  obtain ⟨n, hn⟩ : ∃ n, n = l.length := ⟨_, rfl⟩
  obtain ⟨a, b, c⟩ := x
  simp only [hldC]
  obtain ⟨W0, hW0⟩ : ∃ W0, W0 = w.alloc (.cells #[.int .i64 a, .int .i64 b, .int .i64 c] 53) := ⟨_, rfl⟩
  have A1 : W0.heap[w.heap.size]? = some (.cells #[.int .i64 a, .int .i64 b, .int .i64 c] 53 (0, 0)) := by rw [hW0]; exact heap_alloc_new w _
  have HBX : Hid (∀ W, Below W0.heap.size W0 W → W.cell? ⟨w.heap.size, 0, none⟩ = some (.int .i64 a) ∧ W.cell? ⟨w.heap.size, 1, none⟩ = some (.int .i64 b) ∧ W.cell? ⟨w.heap.size, 2, none⟩ = some (.int .i64 c)) := Lib.hid fun W hW => by
    have B1 := (hW.block _ (obj_lt A1)).trans A1
    exact ⟨obj_cell B1 0, obj_cell B1 1, obj_cell B1 2⟩
  have hB0 : Below w.heap.size w W0 := by rw [hW0]; exact below_alloc w _
  have HB0 := Lib.hid hB0
  have HEL : Hid (∀ W, Below W0.heap.size W0 W → ∀ k (h : k < l.length), ∃ g o, ao = some ⟨g, o, none⟩ ∧ W.cell? ⟨g, o + k * 3, none⟩ = some (.int .i64 l[k].sec) ∧ W.cell? ⟨g, o + k * 3 + 1, none⟩ = some (.int .i64 l[k].who) ∧ W.cell? ⟨g, o + k * 3 + 2, none⟩ = some (.int .i64 l[k].amt)) := Lib.hid fun W hW k h => by
    obtain ⟨g, o, h1, h2, h3⟩ := hc (by omega)
    have hb : Below w.heap.size w W := hB0.trans (hW.mono hB0.size)
    have hx : ∀ j, W.cell? ⟨g, o + k * 3 + j, none⟩ = w.cell? ⟨g, o + k * 3 + j, none⟩ := fun j => World.cell?_of_block (hb.block g h2)
    exact ⟨g, o, h1, (hx 0).trans (h3 k h 0 (by omega)), (hx 1).trans (h3 k h 1 (by omega)), (hx 2).trans (h3 k h 2 (by omega))⟩
  have HW0 := Lib.hid hW0
  rw [← hn] at hl ⊢
  have HN := Lib.hid hn
  have HASC := Lib.hid hasc
  have HCM := Lib.hid (fun (x y : Hld) W => rxcompare_any x y W)
  clear hc hL hn hasc A1 hle hB0
  go_enter Try.func142, Try.ntmps142
  go_wp2
  rw [← hW0]
  clear hW0
  go_loopw [9, 10] (fun iv jv wr => ∃ (i j : Nat), iv = .int .i64 (i : Int) ∧ jv = .int .i64 (j : Int) ∧ i ≤ j ∧ j ≤ n ∧ Hid ((∀ k (h : k < l.length), k < i → hlt l[k] ⟨a, b, c⟩) ∧ (∀ k (h : k < l.length), j ≤ k → ¬ hlt l[k] ⟨a, b, c⟩)) ∧ Hid (Below W0.heap.size W0 wr)) (fun iv jv _ => (RowKit.intOf jv).toNat - (RowKit.intOf iv).toNat)
  case atStart => exact ⟨0, n, rfl, by first | rfl | go_num, by omega, by omega, Lib.hid ⟨fun k _ h => by omega, fun k h h2 => by have := HN.out; omega⟩, Lib.hid (Below.refl _ _)⟩
  case round =>
    obtain ⟨i, j, rfl, rfl, hij, hjn, HI, HW⟩ := hrel
    by_cases hlj : i < j
    · obtain ⟨h, hh⟩ : ∃ h, h = (i + j) / 2 := ⟨_, rfl⟩
      have hh1 : i ≤ h ∧ h < j := by omega
      have hlh : h < l.length := by have := HN.out; omega
      obtain ⟨g, o, rfl, c0, c1, c2⟩ := HEL.out _ HW.out h hlh
      have HH := Lib.hid hh
      have hij2 : (i : Int) < (j : Int) := by omega
      have hd : ((i : Int) + (j : Int)) / 2 = (h : Int) := by omega
      have hh0 : (0 : Int) ≤ (h : Int) := by omega
      have hhn : (h : Int) < (n : Int) := by omega
      obtain ⟨x0, hx0⟩ : ∃ x0, x0 = l[h] := ⟨_, rfl⟩
      rw [← hx0] at c0 c1 c2
      have HX0 := Lib.hid hx0
      clear hh hx0
      obtain ⟨xa, xb, xc⟩ := x0
      simp only at c0 c1 c2
      obtain ⟨d0, d1, d2⟩ := HBX.out _ HW.out
      have HCL := Lib.hid (fun W => HCM.out ⟨xa, xb, xc⟩ ⟨a, b, c⟩ W)
      simp only [hldC] at HCL
      obtain ⟨q, hq⟩ : ∃ q, q = hldCmp ⟨xa, xb, xc⟩ ⟨a, b, c⟩ := ⟨_, rfl⟩
      rw [← hq] at HCL
      have HQ := Lib.hid hq
      clear hq
      have HST : Hid (∀ W, Below W0.heap.size W0 W → W.cell? ⟨g, o + h * 3, none⟩ = some (.int .i64 xa) ∧ W.cell? ⟨g, o + h * 3 + 1, none⟩ = some (.int .i64 xb) ∧ W.cell? ⟨g, o + h * 3 + 2, none⟩ = some (.int .i64 xc) ∧ W.cell? ⟨w.heap.size, 0, none⟩ = some (.int .i64 a) ∧ W.cell? ⟨w.heap.size, 1, none⟩ = some (.int .i64 b) ∧ W.cell? ⟨w.heap.size, 2, none⟩ = some (.int .i64 c)) := Lib.hid fun W hW => by
        obtain ⟨g2, o2, e2, f0, f1, f2⟩ := HEL.out W hW h hlh
        simp only [Option.some.injEq, Addr.mk.injEq, and_true] at e2
        obtain ⟨rfl, rfl⟩ := e2
        rw [← HX0.out] at f0 f1 f2
        exact ⟨f0, f1, f2, HBX.out W hW⟩
      have hcs := HST.out _ HW.out
      clear HBX HCM
      go_upto_region 5 with fail
      go_region_held3 (fun W => W.cell? ⟨g, o + h * 3, none⟩ = some (.int .i64 xa) ∧ W.cell? ⟨g, o + h * 3 + 1, none⟩ = some (.int .i64 xb) ∧ W.cell? ⟨g, o + h * 3 + 2, none⟩ = some (.int .i64 xc) ∧ W.cell? ⟨w.heap.size, 0, none⟩ = some (.int .i64 a) ∧ W.cell? ⟨w.heap.size, 1, none⟩ = some (.int .i64 b) ∧ W.cell? ⟨w.heap.size, 2, none⟩ = some (.int .i64 c)) (first | exact hcs | exact HST.out _ HJ.out) (first | (go_at_call 143; with_reducible refine Calls.mono (HCL.out _) ?_; rintro e x7 ⟨rfl, b7⟩; have HJ : Hid (Below W0.heap.size W0 x7) := Lib.hid ((HW.out.drew).trans (b7.mono (HW.out.drew).size)); clear b7))
      clear hcs c0 c1 c2 d0 d1 d2
      by_cases hq0 : q < 0
      · have HLT : Hid (hlt l[h] ⟨a, b, c⟩) := Lib.hid (by rw [← HX0.out]; exact hldCmp_lt.1 (by rw [← HQ.out]; exact hq0))
        go_wp2
        go_roundw
        case rel => exact ⟨h + 1, j, by first | rfl | go_num, rfl, by omega, hjn, Lib.hid ⟨fun k hk hkh => (by
          by_cases e : k = h
          · subst e; exact HLT.out
          · exact hlt_trans (asc_get HASC.out hk hlh (by omega)) HLT.out), HI.out.2⟩, HJ⟩
        case measure => simp [RowKit.intOf]; omega
      · have HLT : Hid (¬ hlt l[h] ⟨a, b, c⟩) := Lib.hid (by rw [← HX0.out]; exact fun e => hq0 (by rw [HQ.out]; exact hldCmp_lt.2 e))
        go_wp2
        go_roundw
        case rel => exact ⟨i, h, rfl, by first | rfl | go_num, by omega, by omega, Lib.hid ⟨HI.out.1, fun k hk hkh e => (by
          by_cases e2 : k = h
          · subst e2; exact HLT.out e
          · exact HLT.out (hlt_trans (asc_get HASC.out hlh hk (by omega)) e))⟩, HJ⟩
        case measure => simp [RowKit.intOf]; omega
    · obtain rfl : i = j := by omega
      have hP : PosH l ⟨a, b, c⟩ i := ⟨by have := HN.out; omega, HI.out.1, HI.out.2⟩
      have HP := Lib.hid hP
      clear hP HI
      have hij2 : ¬ ((i : Int) < (i : Int)) := by omega
      by_cases hin : i < n
      · have hlh : i < l.length := by have := HN.out; omega
        obtain ⟨g, o, rfl, c0, c1, c2⟩ := HEL.out _ HW.out i hlh
        obtain ⟨x0, hx0⟩ : ∃ x0, x0 = l[i] := ⟨_, rfl⟩
        rw [← hx0] at c0 c1 c2
        have HX0 := Lib.hid hx0
        clear hx0
        obtain ⟨xa, xb, xc⟩ := x0
        simp only at c0 c1 c2
        obtain ⟨d0, d1, d2⟩ := HBX.out _ HW.out
        have HCL := Lib.hid (fun W => HCM.out ⟨xa, xb, xc⟩ ⟨a, b, c⟩ W)
        simp only [hldC] at HCL
        obtain ⟨q, hq⟩ : ∃ q, q = hldCmp ⟨xa, xb, xc⟩ ⟨a, b, c⟩ := ⟨_, rfl⟩
        rw [← hq] at HCL
        have HQ : Hid (hitH l ⟨a, b, c⟩ i = decide (q = 0)) := Lib.hid (by
          unfold hitH
          rw [hq, HX0.out]
          exact decide_eq_decide.2 ⟨fun h => h.2, fun h => ⟨hlh, h⟩⟩)
        clear hq
        have HST : Hid (∀ W, Below W0.heap.size W0 W → W.cell? ⟨g, o + i * 3, none⟩ = some (.int .i64 xa) ∧ W.cell? ⟨g, o + i * 3 + 1, none⟩ = some (.int .i64 xb) ∧ W.cell? ⟨g, o + i * 3 + 2, none⟩ = some (.int .i64 xc) ∧ W.cell? ⟨w.heap.size, 0, none⟩ = some (.int .i64 a) ∧ W.cell? ⟨w.heap.size, 1, none⟩ = some (.int .i64 b) ∧ W.cell? ⟨w.heap.size, 2, none⟩ = some (.int .i64 c)) := Lib.hid fun W hW => by
          obtain ⟨g2, o2, e2, f0, f1, f2⟩ := HEL.out W hW i hlh
          simp only [Option.some.injEq, Addr.mk.injEq, and_true] at e2
          obtain ⟨rfl, rfl⟩ := e2
          rw [← HX0.out] at f0 f1 f2
          exact ⟨f0, f1, f2, HBX.out W hW⟩
        have hcs := HST.out _ HW.out
        have hi0 : (0 : Int) ≤ (i : Int) := by omega
        have hin2 : (i : Int) < (n : Int) := by omega
        clear HBX HCM
        go_upto_region 8 with fail
        go_region_held3 (fun W => W.cell? ⟨g, o + i * 3, none⟩ = some (.int .i64 xa) ∧ W.cell? ⟨g, o + i * 3 + 1, none⟩ = some (.int .i64 xb) ∧ W.cell? ⟨g, o + i * 3 + 2, none⟩ = some (.int .i64 xc) ∧ W.cell? ⟨w.heap.size, 0, none⟩ = some (.int .i64 a) ∧ W.cell? ⟨w.heap.size, 1, none⟩ = some (.int .i64 b) ∧ W.cell? ⟨w.heap.size, 2, none⟩ = some (.int .i64 c)) (first | exact hcs | exact HST.out _ HJ.out) (first | (go_at_call 143; with_reducible refine Calls.mono (HCL.out _) ?_; rintro e x7 ⟨rfl, b7⟩; have HJ : Hid (Below W0.heap.size W0 x7) := Lib.hid ((HW.out.drew).trans (b7.mono (HW.out.drew).size)); clear b7))
        all_goals (go_wp2; go_ret2; refine ⟨i, HP.out, ?_, HB0.out.trans (HJ.out.mono HB0.out.size)⟩; first | (rw [HQ.out]; done) | (rw [HQ.out]; rfl) | (rw [HQ.out]; simp [Act.eval, Act.put]))
      · have HQ : Hid (hitH l ⟨a, b, c⟩ i = false) := Lib.hid (by
          unfold hitH
          exact decide_eq_false fun h => by have := HN.out; have := h.1; omega)
        have hin2 : ¬ ((i : Int) < (n : Int)) := by omega
        clear HBX HCM HEL
        go_upto_region 8 with fail
        go_region
        all_goals (go_wp2; go_ret2; refine ⟨i, HP.out, ?_, HB0.out.trans ((HW.out.drew).mono HB0.out.size)⟩; first | (rw [HQ.out]; done) | (rw [HQ.out]; rfl) | (rw [HQ.out]; simp [Act.eval, Act.put]))

end Go.Proofs.Ytblidmkkbcobgaa

/- Rows in memory of the call's own: copying elements of several cells within and into them; of no function; no condition but that the cells are there. -/
namespace Go.Proofs.Ytblidmkkbcobgaa
open Go.RowKit Go.Lib Go.Proofs

/-- 'copy' at elements of k cells, into a block of this call. -/
theorem copy_rowK {P : Program} (w : World) (dT sT ty elem : TypeId) (k g o dLen dCap : Nat) (a : Addr) (sLen sCap : Nat) (cur : Array Value) (t : TypeId) (cs : List Value)
    (hu : P.underlying dT = some (.slice elem)) (hs : (P.info? elem).map (·.size) = some k)
    (hg : w.heap[g]? = some (.cells cur t (0, 0))) (hn : cs.length = Nat.min sLen dLen * k)
    (hsrc : ∀ j v, cs[j]? = some v → w.cell? (a.add j) = some v) (hfit : o + cs.length ≤ cur.size) (h1 : ∀ v ∈ cs, v.oneCell' = true) :
    (Builtin.copy_ #[dT, sT] ty #[.slice (some ⟨g, o, none⟩) dLen dCap, .slice (some a) sLen sCap]).run P w =
      .ok (goInt (Nat.min sLen dLen)) (w.setRow g (cur.toList.take o ++ cs ++ cur.toList.drop (o + cs.length)).toArray) := by
  have hl := run_loadCells_list (P := P) w a cs hsrc
  have hst := run_storeCells_at P g o t cs 0 cur w hg (by simpa using hfit) h1
  cases hq : P.info? elem with
  | none => simp [hq] at hs
  | some i =>
    have hi : i.size = k := by simpa [hq] using hs
    simp [Builtin.copy_, run_underlying hu, Builtin.lenOf, Builtin.firstCells, sizeOf, typeInfo, hq, hi, ← hn, hl, hst]

/-- What stands in a row behind the two copies of an insertion. -/
theorem ins_cells {cur : List Value} {n i c k : Nat} {xs x : List Value} (hcur : cur.take (n * k) = xs) (hl : cur.length = c * k) (hi : i ≤ n) (hc : n + 1 ≤ c) (hx : x.length = k) :
    let c1 := cur.take ((i + 1) * k) ++ xs.drop (i * k) ++ cur.drop ((i + 1) * k + (xs.drop (i * k)).length)
    let c2 := c1.take (i * k) ++ x ++ c1.drop (i * k + x.length)
    c2.length = c * k ∧ c2.take ((n + 1) * k) = xs.take (i * k) ++ x ++ xs.drop (i * k) := by
  have e1 : (i + 1) * k = i * k + k := by rw [Nat.add_mul, Nat.one_mul]
  have e2 : (n + 1) * k = n * k + k := by rw [Nat.add_mul, Nat.one_mul]
  have h1 : i * k ≤ n * k := Nat.mul_le_mul_right k hi
  have h2 : (n + 1) * k ≤ c * k := Nat.mul_le_mul_right k hc
  have hxl : xs.length = n * k := by rw [← hcur, List.length_take]; omega
  have hA : (cur.take ((i + 1) * k)).length = i * k + k := by rw [List.length_take]; omega
  have hd : (xs.drop (i * k)).length = n * k - i * k := by rw [List.length_drop, hxl]
  have ht : cur.take (i * k) = xs.take (i * k) := by
    rw [← hcur, List.take_take]; congr 1; omega
  intro c1 c2
  have hc1l : c1.length = c * k := by
    show (cur.take ((i + 1) * k) ++ xs.drop (i * k) ++ cur.drop ((i + 1) * k + (xs.drop (i * k)).length)).length = _
    rw [List.length_append, List.length_append, hA, hd, List.length_drop, e1, hl]; omega
  have hc1t : c1.take (i * k) = xs.take (i * k) := by
    show (cur.take ((i + 1) * k) ++ xs.drop (i * k) ++ cur.drop ((i + 1) * k + (xs.drop (i * k)).length)).take (i * k) = _
    rw [List.append_assoc, List.take_append_of_le_length (by rw [hA]; omega), List.take_take, ← ht]
    congr 1; omega
  have hc1d : c1.drop (i * k + k) = xs.drop (i * k) ++ cur.drop ((i + 1) * k + (xs.drop (i * k)).length) := by
    show (cur.take ((i + 1) * k) ++ xs.drop (i * k) ++ cur.drop ((i + 1) * k + (xs.drop (i * k)).length)).drop (i * k + k) = _
    rw [List.append_assoc, ← hA, List.drop_left]
  have hT : (xs.take (i * k)).length = i * k := by rw [List.length_take, hxl]; omega
  refine ⟨?_, ?_⟩
  · show (c1.take (i * k) ++ x ++ c1.drop (i * k + x.length)).length = _
    rw [List.length_append, List.length_append, hc1t, hT, List.length_drop, hc1l, hx]; omega
  · show (c1.take (i * k) ++ x ++ c1.drop (i * k + x.length)).take ((n + 1) * k) = _
    rw [hc1t, hx, hc1d, ← List.append_assoc]
    refine (List.take_append_of_le_length ?_).trans ?_
    · rw [List.length_append, List.length_append, hT, hx, hd, e2]; omega
    · refine List.take_of_length_le ?_
      rw [List.length_append, List.length_append, hT, hx, hd, e2]; omega

end Go.Proofs.Ytblidmkkbcobgaa

/- What an insertion or a deletion makes of a row of the call's own; of no function of the program; no condition. -/
namespace Go.Proofs.Ytblidmkkbcobgaa
open Go.RowKit Go.Lib Go.Proofs

/-- What became of a row of the call's own. -/
structure RowTo (base : Nat) (e : TypeId) (k : Nat) (w : World) (v : Value) (w' : World) (v' : Value) (n : Nat) (xs : List Value) : Prop where
  owns : w'.ownsRow base e k v' n xs
  grown : w.grownBy w' v.ownBlock
  moved : Moved w v v'

theorem shape_row {w : World} {b : Nat} {cs : Array Value} {T : TypeId} (h : w.heap[b]? = some (.cells cs T (0, 0))) : w.shape? b = some (T, cs.size) := by
  simp [World.shape?, h]
theorem owns_setRow {w : World} {base : Nat} {e : TypeId} {k g n cap : Nat} {cur : Array Value} {c2 : List Value} {xs : List Value} (hg : w.heap[g]? = some (.cells cur e (0, 0))) (hb : base ≤ g) (hn : n ≤ cap) (hc : cap ≤ maxLen) (hl : c2.length = cap * k) (ht : c2.take (n * k) = xs) :
    (w.setRow g c2.toArray).ownsRow base e k (.slice (some ⟨g, 0, none⟩) n cap) n xs := by
  refine ⟨by rw [← ht, List.length_take, hl]; exact Nat.min_eq_left (Nat.mul_le_mul_right k hn), Or.inr ⟨g, cap, c2.toArray, rfl, hb, setRow_heap w g cur _ e _ hg, hn, hc, by simpa using hl, by simpa using ht⟩⟩
theorem grown_setRow (w : World) (g : Nat) (cs : Array Value) : w.grownBy (w.setRow g cs) (some g) :=
  ⟨rfl, rfl, rfl, by simp, fun k hk hne => setRow_other w g k cs fun e => hne (by rw [e])⟩
theorem setRow_setRow_heap {w : World} {g : Nat} {cur c1 c2 : Array Value} {e : TypeId} (hg : w.heap[g]? = some (.cells cur e (0, 0))) : ((w.setRow g c1).setRow g c2).heap[g]? = some (.cells c2 e (0, 0)) :=
  setRow_heap _ g c1 _ e _ (setRow_heap w g cur _ e _ hg)
theorem RowTo.below {base : Nat} {e : TypeId} {k : Nat} {w : World} {v : Value} {w' : World} {v' : Value} {n m : Nat} {xs ys : List Value} (h : RowTo base e k w v w' v' n xs) (hw : w.ownsRow base e k v m ys) : Below base w w' ∨ base > w.heap.size := by
  by_cases hb : base ≤ w.heap.size
  · refine Or.inl ⟨h.grown.os, h.grown.tape, h.grown.output, h.grown.size, fun k hk => h.grown.block k (by omega) fun e => ?_⟩
    have := (hw.lt k e.symm).1
    omega
  · exact Or.inr (by omega)
theorem RowTo.belowB {base : Nat} {e : TypeId} {k : Nat} {w : World} {v : Value} {w' : World} {v' : Value} {n m : Nat} {xs ys : List Value} (h : RowTo base e k w v w' v' n xs) (hw : w.ownsRow base e k v m ys) (hb : base ≤ w.heap.size) : Below base w w' :=
  (h.below hw).resolve_right (by omega)
theorem RowTo.trans {base : Nat} {e : TypeId} {k : Nat} {w : World} {v : Value} {w' : World} {v' : Value} {w'' : World} {v'' : Value} {n m : Nat} {xs ys : List Value} (h : RowTo base e k w v w' v' n xs) (h2 : RowTo base e k w' v' w'' v'' m ys) : RowTo base e k w v w'' v'' m ys := by
  refine ⟨h2.owns, ⟨h2.grown.os.trans h.grown.os, h2.grown.tape.trans h.grown.tape, h2.grown.output.trans h.grown.output, Nat.le_trans h.grown.size h2.grown.size, fun k hk hne => ?_⟩, ?_⟩
  · refine (h2.grown.block k (Nat.lt_of_lt_of_le hk h.grown.size) fun e => ?_).trans (h.grown.block k hk hne)
    rcases h.moved with hm | hm
    · exact hne (by rw [← hm]; exact e)
    · have := hm k e.symm; omega
  · rcases h2.moved with hm | hm
    · rcases h.moved with hm2 | hm2
      · exact Or.inl (hm.trans hm2)
      · exact Or.inr fun g hg => hm2 g (by rw [← hm]; exact hg)
    · exact Or.inr fun g hg => Nat.le_trans h.grown.size (hm g hg)
theorem RowTo.refl {base : Nat} {e : TypeId} {k : Nat} {w : World} {v : Value} {n : Nat} {xs : List Value} (h : w.ownsRow base e k v n xs) : RowTo base e k w v w v n xs := ⟨h, grownBy_refl w _, Or.inl rfl⟩
/-- A change of a later world that only what is new can tell. -/
theorem RowTo.after {base : Nat} {e : TypeId} {k : Nat} {w0 w : World} {v : Value} {w' : World} {v' : Value} {n : Nat} {xs : List Value} (hb : Below w0.heap.size w0 w) (hv : ∀ g, v.ownBlock = some g → g < w0.heap.size) (h : RowTo base e k w v w' v' n xs) : RowTo base e k w0 v w' v' n xs := by
  refine ⟨h.owns, ⟨h.grown.os.trans hb.os, h.grown.tape.trans hb.tape, h.grown.output.trans hb.output, Nat.le_trans hb.size h.grown.size, fun k hk hne => (h.grown.block k (Nat.lt_of_lt_of_le hk hb.size) hne).trans (hb.block k hk)⟩, ?_⟩
  rcases h.moved with hm | hm
  · exact Or.inl hm
  · exact Or.inr fun g hg => Nat.le_trans hb.size (hm g hg)

theorem cellsL_take {α : Type} {f : α → List Value} {m : Nat} (hf : Fields f m) : ∀ (l : List α) (i : Nat), cellsL f (l.take i) = (cellsL f l).take (i * m)
  | [], i => by simp [cellsL]
  | x :: l, 0 => by simp [cellsL]
  | x :: l, i + 1 => by
    rw [List.take_succ_cons]
    show f x ++ cellsL f (l.take i) = (f x ++ cellsL f l).take ((i + 1) * m)
    have e : (i + 1) * m = m + i * m := by rw [Nat.add_mul, Nat.one_mul, Nat.add_comm]
    have h := List.take_length_add_append (l₁ := f x) (l₂ := cellsL f l) (i := i * m)
    rw [hf.len] at h
    rw [cellsL_take hf l i, e, h]
theorem cellsL_drop {α : Type} {f : α → List Value} {m : Nat} (hf : Fields f m) : ∀ (l : List α) (i : Nat), cellsL f (l.drop i) = (cellsL f l).drop (i * m)
  | [], i => by simp [cellsL]
  | x :: l, 0 => by simp [cellsL]
  | x :: l, i + 1 => by
    rw [List.drop_succ_cons]
    show cellsL f (l.drop i) = (f x ++ cellsL f l).drop ((i + 1) * m)
    have e : (i + 1) * m = m + i * m := by rw [Nat.add_mul, Nat.one_mul, Nat.add_comm]
    have h := List.drop_length_add_append (l₁ := f x) (l₂ := cellsL f l) (i := i * m)
    rw [hf.len] at h
    rw [cellsL_drop hf l i, e, h]
theorem cells_ins {α : Type} {f : α → List Value} {m : Nat} (hf : Fields f m) (l : List α) (i : Nat) (x : α) : (cellsL f l).take (i * m) ++ f x ++ (cellsL f l).drop (i * m) = cellsL f (l.take i ++ x :: l.drop i) := by
  rw [cellsL_app, cellsL_take hf]
  show _ = _ ++ (f x ++ cellsL f (l.drop i))
  rw [cellsL_drop hf, List.append_assoc]
/-- What stands in a new row behind the two copies of an insertion. -/
theorem ins_new {row : List Value} {n i c k : Nat} {xs x : List Value} (hxl : xs.length = n * k) (hrow : row.take (i * k) = xs.take (i * k)) (hl : row.length = c * k) (hi : i ≤ n) (hc : n + 1 ≤ c) (hx : x.length = k) :
    let r1 := row.take (i * k) ++ x ++ row.drop (i * k + x.length)
    let r2 := r1.take ((i + 1) * k) ++ xs.drop (i * k) ++ r1.drop ((i + 1) * k + (xs.drop (i * k)).length)
    r1.length = c * k ∧ r2.length = c * k ∧ r2.take ((n + 1) * k) = xs.take (i * k) ++ x ++ xs.drop (i * k) := by
  have e1 : (i + 1) * k = i * k + k := by rw [Nat.add_mul, Nat.one_mul]
  have e2 : (n + 1) * k = n * k + k := by rw [Nat.add_mul, Nat.one_mul]
  have h1 : i * k ≤ n * k := Nat.mul_le_mul_right k hi
  have h2 : (n + 1) * k ≤ c * k := Nat.mul_le_mul_right k hc
  have hT : (row.take (i * k)).length = i * k := by rw [List.length_take, hl]; omega
  have hd : (xs.drop (i * k)).length = n * k - i * k := by rw [List.length_drop, hxl]
  have hX : (row.take (i * k) ++ x).length = (i + 1) * k := by rw [List.length_append, hT, hx, e1]
  intro r1 r2
  have hr1 : r1.length = c * k := by
    show (row.take (i * k) ++ x ++ row.drop (i * k + x.length)).length = _
    rw [List.length_append, hX, List.length_drop, hx, hl, e1]; omega
  have hr1t : r1.take ((i + 1) * k) = row.take (i * k) ++ x := by
    show (row.take (i * k) ++ x ++ row.drop (i * k + x.length)).take ((i + 1) * k) = _
    rw [← hX, List.take_left]
  refine ⟨hr1, ?_, ?_⟩
  · show (r1.take ((i + 1) * k) ++ xs.drop (i * k) ++ r1.drop ((i + 1) * k + (xs.drop (i * k)).length)).length = _
    rw [List.length_append, List.length_append, hr1t, hX, hd, List.length_drop, hr1, e1]; omega
  · show (r1.take ((i + 1) * k) ++ xs.drop (i * k) ++ r1.drop ((i + 1) * k + (xs.drop (i * k)).length)).take ((n + 1) * k) = _
    rw [hr1t, hrow]
    have hX2 : (xs.take (i * k) ++ x ++ xs.drop (i * k)).length = (n + 1) * k := by
      rw [← hrow, List.length_append, hX, hd, e1, e2]; omega
    rw [← hX2, List.take_left]

/-- A copy whose slots are named: tried at that operation alone. -/
theorem wpList_copyT {P : Program} {w : World} {ops : Array Oper} {rest : List Oper} {o : Oper} {a : Act} {Q : Exit → Act → World → Prop} (hgd : o.guard = none) (d s : Operand) (t t' : TypeId)
    (ho : o.op = .call { callee := .builtin .copy, args := #[d, s], argTypes := #[t, t'] }) (v' : Value) (w' : World)
    (hr : (Builtin.copy_ #[t, t'] o.type #[a.eval d, a.eval s]).run P w = .ok v' w') (h : wpList P ops Q rest (a.put o.dst v') w') : wpList P ops Q (o :: rest) a w :=
  wpList_copy_runI w hgd d s t t' ho _ _ rfl rfl hr h

end Go.Proofs.Ytblidmkkbcobgaa
