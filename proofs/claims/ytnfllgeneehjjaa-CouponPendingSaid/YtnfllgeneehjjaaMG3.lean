/- Texts of one claim, merged: CmpI, RhS, RhB. -/
import Derived.Test.YtnfllgeneehjjaaMBase
import Derived.Test.YtnfllgeneehjjaaMG1
import Derived.Test.YtnfllgeneehjjaaMPut
import Derived.Deep.RegionHeld3
import Derived.Deep.DeepCutAuto
import Derived.IntWalk
/- The contract of Go's cmp.Compare for ints. -/
set_option linter.unusedSimpArgs false
set_option linter.unusedVariables false
namespace Go.Proofs.Ytnfllgeneehjjaa
open Go.RowKit Go.Lib Go.Proofs

def cmpI (a b : Int) : Int := if a < b then -1 else if b < a then 1 else 0

set_option maxHeartbeats 400000 in
theorem cmpNaN_no (a : Int) (w : World) : Calls Try.prog 93 #[.int .i64 a] w fun e w' => e = .returned (.bool false) ∧ w = w' := by
  go_enter Try.func93, Try.ntmps93
  go_wp2
  go_ret
  exact ⟨rfl, rfl⟩

set_option maxHeartbeats 1000000 in
theorem cmpInt_any (a b : Int) (w : World) : Calls Try.prog 67 #[.int .i64 a, .int .i64 b] w fun e w' => e = .returned (.int .i64 (cmpI a b)) ∧ w = w' := by
  have HN := Lib.hid cmpNaN_no
  rcases Int.lt_trichotomy a b with h | h | h
  · have hc : cmpI a b = -1 := if_pos h
    rw [hc]
    clear hc
    go_enter Try.func67, Try.ntmps67
    go_wp2_with (go_at_call 93; refine (HN.out _ _).mono ?_; rintro e w' ⟨rfl, rfl⟩)
    go_ret
    exact ⟨rfl, rfl⟩
  · have hc : cmpI a b = 0 := by unfold cmpI; rw [if_neg (by omega), if_neg (by omega)]
    rw [hc]
    clear hc
    subst h
    go_enter Try.func67, Try.ntmps67
    go_wp2_with (go_at_call 93; refine (HN.out _ _).mono ?_; rintro e w' ⟨rfl, rfl⟩)
    go_ret
    exact ⟨rfl, rfl⟩
  · have hc : cmpI a b = 1 := by unfold cmpI; rw [if_neg (by omega), if_pos h]
    rw [hc]
    clear hc
    have h2 : ¬ a < b := by omega
    go_enter Try.func67, Try.ntmps67
    go_wp2_with (go_at_call 93; refine (HN.out _ _).mono ?_; rintro e w' ⟨rfl, rfl⟩)
    go_ret
    exact ⟨rfl, rfl⟩

end Go.Proofs.Ytnfllgeneehjjaa

/- cmp.Or of two ints; the order of holdings. -/
set_option linter.unusedSimpArgs false
set_option linter.unusedVariables false
namespace Go.Proofs.Ytnfllgeneehjjaa
open Go.RowKit Go.Lib Go.Proofs

/-- The first one that is not zero. -/
def or2 (a b : Int) : Int := if a ≠ 0 then a else b

set_option maxHeartbeats 2000000 in
theorem cmpOr2_any (a b : Int) (g cap : Nat) (w : World) (h0 : w.cell? ⟨g, 0, none⟩ = some (.int .i64 a)) (h1 : w.cell? ⟨g, 1, none⟩ = some (.int .i64 b)) :
    Calls Try.prog 116 #[.slice (some ⟨g, 0, none⟩) 2 cap] w fun e w' => e = .returned (.int .i64 (or2 a b)) ∧ Below w.heap.size w w' := by
  obtain ⟨q, hq⟩ : ∃ q, q = or2 a b := ⟨_, rfl⟩
  have HQ := Lib.hid hq
  rw [← hq]
  clear hq
  go_enter Try.func116, Try.ntmps116
  go_wp2
  go_loopw [8] (fun iv wr => ∃ (k : Nat), iv = .int .i64 (k : Int) ∧ k ≤ 2 ∧ Hid ((0 < k → a = 0) ∧ (1 < k → b = 0)) ∧ wr = w) (fun iv _ => 2 - (RowKit.intOf iv).toNat)
  case atStart => exact ⟨0, rfl, by omega, Lib.hid ⟨by omega, by omega⟩, rfl⟩
  case round =>
    obtain ⟨k, rfl, hk, HZ, rfl⟩ := hrel
    by_cases hlt : k < 2
    · obtain ⟨x, hx, hxq⟩ : ∃ x, wr.cell? ⟨g, k, none⟩ = some (.int .i64 x) ∧ Hid ((x ≠ 0 → x = q) ∧ (x = 0 → (0 < k + 1 → a = 0) ∧ (1 < k + 1 → b = 0))) := by
        have hz := HZ.out
        have hqq := HQ.out
        unfold or2 at hqq
        rcases (show k = 0 ∨ k = 1 by omega) with rfl | rfl
        · refine ⟨a, h0, Lib.hid ⟨fun h => ?_, fun h => ⟨fun _ => h, by omega⟩⟩⟩
          rw [if_pos h] at hqq; exact hqq.symm
        · have ha := hz.1 (by omega)
          refine ⟨b, h1, Lib.hid ⟨fun h => ?_, fun h => ⟨fun _ => ha, fun _ => h⟩⟩⟩
          rw [if_neg (by omega)] at hqq; exact hqq.symm
      have hki : (k : Int) < 2 := by omega
      have hk0 : (0 : Int) ≤ (k : Int) := by omega
      clear h0 h1
      by_cases hz : x = 0
      · subst hz
        go_wp2
        go_roundw
        case rel => exact ⟨k + 1, by first | rfl | go_num, by omega, Lib.hid (hxq.out.2 rfl), by first | trivial | rfl⟩
        case measure => simp [RowKit.intOf]; omega
      · have hxe := hxq.out.1 hz
        subst hxe
        go_wp2
        go_ret
        exact ⟨rfl, Below.refl _ _⟩
    · obtain rfl : k = 2 := by omega
      have hz := HZ.out
      have hqq := HQ.out
      unfold or2 at hqq
      rw [if_neg (by have := hz.1 (by omega); omega), hz.2 (by omega)] at hqq
      subst hqq
      clear h0 h1
      go_wp2
      go_ret
      exact ⟨rfl, Below.refl _ _⟩

/-- The order of holdings: by security, by holder. -/
def hldCmp (x y : Hld) : Int := or2 (cmpI x.sec y.sec) (cmpI x.who y.who)
theorem hldCmp_lt {x y : Hld} : hldCmp x y < 0 ↔ hlt x y := by
  unfold hldCmp or2 cmpI hlt
  repeat' split
  all_goals first | omega | (constructor <;> omega)
theorem hldCmp_eq {x y : Hld} : hldCmp x y = 0 ↔ (x.sec = y.sec ∧ x.who = y.who) := by
  unfold hldCmp or2 cmpI
  repeat' split
  all_goals first | omega | (constructor <;> omega)

set_option maxHeartbeats 4000000 in
theorem rxcompare_any (x y : Hld) (w : World) : Calls Try.prog 107 #[.agg (hldC x).toArray, .agg (hldC y).toArray] w fun e w' => e = .returned (.int .i64 (hldCmp x y)) ∧ Below w.heap.size w w' := by
  obtain ⟨a, b, c⟩ := x
  obtain ⟨p, q, r⟩ := y
  simp only [hldC]
  have HC := Lib.hid (fun x y W => cmpInt_any x y W)
  have HB := Lib.hid (below2 w (.cells #[.int .i64 a, .int .i64 b, .int .i64 c] 51) (.cells #[.int .i64 p, .int .i64 q, .int .i64 r] 51))
  unfold hldCmp
  simp only
  obtain ⟨u1, hu1⟩ : ∃ u, u = cmpI a p := ⟨_, rfl⟩
  obtain ⟨u2, hu2⟩ : ∃ u, u = cmpI b q := ⟨_, rfl⟩
  rw [← hu1, ← hu2]
  have H1 := Lib.hid (fun W => HC.out a p W)
  have H2 := Lib.hid (fun W => HC.out b q W)
  rw [← hu1] at H1
  rw [← hu2] at H2
  clear hu1 hu2 HC
  have HOR := Lib.hid (fun (W : World) => cmpOr2_any u1 u2 W.heap.size 2 (W.alloc (.cells #[.int .i64 u1, .int .i64 u2] 3)).drew (obj_cell (heap_alloc_new _ _) 0) (obj_cell (heap_alloc_new _ _) 1))
  obtain ⟨W0, hW0⟩ : ∃ W0, W0 = (w.alloc (.cells #[.int .i64 a, .int .i64 b, .int .i64 c] 51)).alloc (.cells #[.int .i64 p, .int .i64 q, .int .i64 r] 51) := ⟨_, rfl⟩
  have A1 : W0.heap[w.heap.size]? = some (.cells #[.int .i64 a, .int .i64 b, .int .i64 c] 51 (0, 0)) := by rw [hW0]; exact alloc1_at w _ _
  have A2 : W0.heap[w.heap.size + 1]? = some (.cells #[.int .i64 p, .int .i64 q, .int .i64 r] 51 (0, 0)) := by rw [hW0]; exact alloc2_at w _ _
  have hc0 : W0.cell? ⟨w.heap.size, 0, none⟩ = some (.int .i64 a) ∧ W0.cell? ⟨w.heap.size, 1, none⟩ = some (.int .i64 b) ∧ W0.cell? ⟨w.heap.size + 1, 0, none⟩ = some (.int .i64 p) ∧ W0.cell? ⟨w.heap.size + 1, 1, none⟩ = some (.int .i64 q) := ⟨obj_cell A1 0, obj_cell A1 1, obj_cell A2 0, obj_cell A2 1⟩
  have HCA : Hid (∀ W, Below W0.heap.size W0 W → W.cell? ⟨w.heap.size, 0, none⟩ = some (.int .i64 a) ∧ W.cell? ⟨w.heap.size, 1, none⟩ = some (.int .i64 b) ∧ W.cell? ⟨w.heap.size + 1, 0, none⟩ = some (.int .i64 p) ∧ W.cell? ⟨w.heap.size + 1, 1, none⟩ = some (.int .i64 q)) := Lib.hid fun W hW => by
    have B1 := (hW.block _ (obj_lt A1)).trans A1
    have B2 := (hW.block _ (obj_lt A2)).trans A2
    exact ⟨obj_cell B1 0, obj_cell B1 1, obj_cell B2 0, obj_cell B2 1⟩
  have HBA : Hid (Below W0.heap.size W0 (W0.alloc (.cells #[.int .i64 u1, .int .i64 u2] 3)).drew) := Lib.hid ((below_alloc W0 _).drew)
  have HW0 := Lib.hid hW0
  have HB0 : Hid (Below w.heap.size w W0) := Lib.hid (by rw [hW0]; exact HB.out)
  clear HB A1 A2
  go_enter Try.func107, Try.ntmps107
  go_upto_region 1 with fail
  rw [← hW0]
  clear hW0
  go_region_held3 (fun W => W.cell? ⟨w.heap.size, 0, none⟩ = some (.int .i64 a) ∧ W.cell? ⟨w.heap.size, 1, none⟩ = some (.int .i64 b) ∧ W.cell? ⟨w.heap.size + 1, 0, none⟩ = some (.int .i64 p) ∧ W.cell? ⟨w.heap.size + 1, 1, none⟩ = some (.int .i64 q)) (first | exact hc0 | exact HCA.out _ HBA.out | exact HCA.out _ HB9.out) (first
    | (go_at_call 67; (first | with_reducible refine Calls.mono (H1.out _) ?_ | with_reducible refine Calls.mono (H2.out _) ?_); rintro e w' ⟨rfl, rfl⟩)
    | (go_at_call 116; with_reducible refine Calls.mono (HOR.out _) ?_; rintro e w9 ⟨rfl, b9⟩; have HB9 : Hid (Below W0.heap.size W0 w9) := Lib.hid (HBA.out.trans (b9.mono HBA.out.size)); clear b9))
  go_wp2
  go_ret
  exact ⟨rfl, HB0.out.trans (HB9.out.mono HB0.out.size)⟩

end Go.Proofs.Ytnfllgeneehjjaa

/- slices.BinarySearchFunc on ascending holdings. -/
set_option linter.unusedSimpArgs false
set_option linter.unusedVariables false
namespace Go.Proofs.Ytnfllgeneehjjaa
open Go.RowKit Go.Lib Go.Proofs

/-- Where a holding stands, or would stand. -/
structure PosH (l : List Hld) (x : Hld) (i : Nat) : Prop where
  le : i ≤ l.length
  lo : ∀ k (h : k < l.length), k < i → hlt l[k] x
  hi : ∀ k (h : k < l.length), i ≤ k → ¬ hlt l[k] x
def hitH (l : List Hld) (x : Hld) (i : Nat) : Bool := decide (∃ h : i < l.length, hldCmp l[i] x = 0)

theorem asc_get {l : List Hld} (h : l.Pairwise hlt) {i j : Nat} (hi : i < l.length) (hj : j < l.length) (hij : i < j) : hlt l[i] l[j] := List.pairwise_iff_getElem.1 h i j hi hj hij

set_option maxHeartbeats 4000000 in
set_option maxRecDepth 100000 in
theorem bsHld_any (l : List Hld) (x : Hld) (v : Value) (w : World) (hasc : l.Pairwise hlt) (hl : l.length ≤ 1000) (hL : ListAt hldC 3 w v l) :
    Calls Try.prog 106 #[v, .agg (hldC x).toArray, .func (.func 107) #[] #[]] w fun e w' => ∃ i, PosH l x i ∧ e = .returned (.tuple #[.int .i64 (i : Int), .bool (hitH l x i)]) ∧ Below w.heap.size w w' := by
  obtain ⟨ao, cap, rfl, hle, hc⟩ := hL.shape hldF
  obtain ⟨n, hn⟩ : ∃ n, n = l.length := ⟨_, rfl⟩
  obtain ⟨a, b, c⟩ := x
  simp only [hldC]
  obtain ⟨W0, hW0⟩ : ∃ W0, W0 = w.alloc (.cells #[.int .i64 a, .int .i64 b, .int .i64 c] 51) := ⟨_, rfl⟩
  have A1 : W0.heap[w.heap.size]? = some (.cells #[.int .i64 a, .int .i64 b, .int .i64 c] 51 (0, 0)) := by rw [hW0]; exact heap_alloc_new w _
  have HBX : Hid (∀ W, Below W0.heap.size W0 W → W.cell? ⟨w.heap.size, 0, none⟩ = some (.int .i64 a) ∧ W.cell? ⟨w.heap.size, 1, none⟩ = some (.int .i64 b) ∧ W.cell? ⟨w.heap.size, 2, none⟩ = some (.int .i64 c)) := Lib.hid fun W hW => by
    have B1 := (hW.block _ (obj_lt A1)).trans A1
    exact ⟨obj_cell B1 0, obj_cell B1 1, obj_cell B1 2⟩
  have hB0 : Below w.heap.size w W0 := by rw [hW0]; exact below_alloc w _
  have HB0 := Lib.hid hB0
  have HEL : Hid (∀ W, Below W0.heap.size W0 W → ∀ k (h : k < l.length), ∃ g o, ao = some ⟨g, o, none⟩ ∧ W.cell? ⟨g, o + k * 3, none⟩ = some (.int .i64 l[k].sec) ∧ W.cell? ⟨g, o + k * 3 + 1, none⟩ = some (.int .i64 l[k].who) ∧ W.cell? ⟨g, o + k * 3 + 2, none⟩ = some (.int .i64 l[k].amt)) := Lib.hid fun W hW k h => by
    obtain ⟨g, o, h1, h2, h3⟩ := hc (by omega)
    have hb : Below w.heap.size w W := hB0.trans (hW.mono hB0.size)
    have hx : ∀ j, W.cell? ⟨g, o + k * 3 + j, none⟩ = w.cell? ⟨g, o + k * 3 + j, none⟩ := fun j => World.cell?_of_block (hb.block g h2)
    exact ⟨g, o, h1, (hx 0).trans (h3 k h 0 (by omega)), (hx 1).trans (h3 k h 1 (by omega)), (hx 2).trans (h3 k h 2 (by omega))⟩
  have HW0 := Lib.hid hW0
  rw [← hn] at hl ⊢
  have HN := Lib.hid hn
  have HASC := Lib.hid hasc
  have HCM := Lib.hid (fun (x y : Hld) W => rxcompare_any x y W)
  clear hc hL hn hasc A1 hle hB0
  go_enter Try.func106, Try.ntmps106
  go_wp2
  rw [← hW0]
  clear hW0
  go_loopw [9, 10] (fun iv jv wr => ∃ (i j : Nat), iv = .int .i64 (i : Int) ∧ jv = .int .i64 (j : Int) ∧ i ≤ j ∧ j ≤ n ∧ Hid ((∀ k (h : k < l.length), k < i → hlt l[k] ⟨a, b, c⟩) ∧ (∀ k (h : k < l.length), j ≤ k → ¬ hlt l[k] ⟨a, b, c⟩)) ∧ Hid (Below W0.heap.size W0 wr)) (fun iv jv _ => (RowKit.intOf jv).toNat - (RowKit.intOf iv).toNat)
  case atStart => exact ⟨0, n, rfl, by first | rfl | go_num, by omega, by omega, Lib.hid ⟨fun k _ h => by omega, fun k h h2 => by have := HN.out; omega⟩, Lib.hid (Below.refl _ _)⟩
  case round =>
    obtain ⟨i, j, rfl, rfl, hij, hjn, HI, HW⟩ := hrel
    by_cases hlj : i < j
    · obtain ⟨h, hh⟩ : ∃ h, h = (i + j) / 2 := ⟨_, rfl⟩
      have hh1 : i ≤ h ∧ h < j := by omega
      have hlh : h < l.length := by have := HN.out; omega
      obtain ⟨g, o, rfl, c0, c1, c2⟩ := HEL.out _ HW.out h hlh
      have HH := Lib.hid hh
      have hij2 : (i : Int) < (j : Int) := by omega
      have hd : ((i : Int) + (j : Int)) / 2 = (h : Int) := by omega
      have hh0 : (0 : Int) ≤ (h : Int) := by omega
      have hhn : (h : Int) < (n : Int) := by omega
      obtain ⟨x0, hx0⟩ : ∃ x0, x0 = l[h] := ⟨_, rfl⟩
      rw [← hx0] at c0 c1 c2
      have HX0 := Lib.hid hx0
      clear hh hx0
      obtain ⟨xa, xb, xc⟩ := x0
      simp only at c0 c1 c2
      obtain ⟨d0, d1, d2⟩ := HBX.out _ HW.out
      have HCL := Lib.hid (fun W => HCM.out ⟨xa, xb, xc⟩ ⟨a, b, c⟩ W)
      simp only [hldC] at HCL
      obtain ⟨q, hq⟩ : ∃ q, q = hldCmp ⟨xa, xb, xc⟩ ⟨a, b, c⟩ := ⟨_, rfl⟩
      rw [← hq] at HCL
      have HQ := Lib.hid hq
      clear hq
      have HST : Hid (∀ W, Below W0.heap.size W0 W → W.cell? ⟨g, o + h * 3, none⟩ = some (.int .i64 xa) ∧ W.cell? ⟨g, o + h * 3 + 1, none⟩ = some (.int .i64 xb) ∧ W.cell? ⟨g, o + h * 3 + 2, none⟩ = some (.int .i64 xc) ∧ W.cell? ⟨w.heap.size, 0, none⟩ = some (.int .i64 a) ∧ W.cell? ⟨w.heap.size, 1, none⟩ = some (.int .i64 b) ∧ W.cell? ⟨w.heap.size, 2, none⟩ = some (.int .i64 c)) := Lib.hid fun W hW => by
        obtain ⟨g2, o2, e2, f0, f1, f2⟩ := HEL.out W hW h hlh
        simp only [Option.some.injEq, Addr.mk.injEq, and_true] at e2
        obtain ⟨rfl, rfl⟩ := e2
        rw [← HX0.out] at f0 f1 f2
        exact ⟨f0, f1, f2, HBX.out W hW⟩
      have hcs := HST.out _ HW.out
      clear HBX HCM
      go_upto_region 5 with fail
      go_region_held3 (fun W => W.cell? ⟨g, o + h * 3, none⟩ = some (.int .i64 xa) ∧ W.cell? ⟨g, o + h * 3 + 1, none⟩ = some (.int .i64 xb) ∧ W.cell? ⟨g, o + h * 3 + 2, none⟩ = some (.int .i64 xc) ∧ W.cell? ⟨w.heap.size, 0, none⟩ = some (.int .i64 a) ∧ W.cell? ⟨w.heap.size, 1, none⟩ = some (.int .i64 b) ∧ W.cell? ⟨w.heap.size, 2, none⟩ = some (.int .i64 c)) (first | exact hcs | exact HST.out _ HJ.out) (first | (go_at_call 107; with_reducible refine Calls.mono (HCL.out _) ?_; rintro e x7 ⟨rfl, b7⟩; have HJ : Hid (Below W0.heap.size W0 x7) := Lib.hid ((HW.out.drew).trans (b7.mono (HW.out.drew).size)); clear b7))
      clear hcs c0 c1 c2 d0 d1 d2
      by_cases hq0 : q < 0
      · have HLT : Hid (hlt l[h] ⟨a, b, c⟩) := Lib.hid (by rw [← HX0.out]; exact hldCmp_lt.1 (by rw [← HQ.out]; exact hq0))
        go_wp2
        go_roundw
        case rel => exact ⟨h + 1, j, by first | rfl | go_num, rfl, by omega, hjn, Lib.hid ⟨fun k hk hkh => (by
          by_cases e : k = h
          · subst e; exact HLT.out
          · exact hlt_trans (asc_get HASC.out hk hlh (by omega)) HLT.out), HI.out.2⟩, HJ⟩
        case measure => simp [RowKit.intOf]; omega
      · have HLT : Hid (¬ hlt l[h] ⟨a, b, c⟩) := Lib.hid (by rw [← HX0.out]; exact fun e => hq0 (by rw [HQ.out]; exact hldCmp_lt.2 e))
        go_wp2
        go_roundw
        case rel => exact ⟨i, h, rfl, by first | rfl | go_num, by omega, by omega, Lib.hid ⟨HI.out.1, fun k hk hkh e => (by
          by_cases e2 : k = h
          · subst e2; exact HLT.out e
          · exact HLT.out (hlt_trans (asc_get HASC.out hlh hk (by omega)) e))⟩, HJ⟩
        case measure => simp [RowKit.intOf]; omega
    · obtain rfl : i = j := by omega
      have hP : PosH l ⟨a, b, c⟩ i := ⟨by have := HN.out; omega, HI.out.1, HI.out.2⟩
      have HP := Lib.hid hP
      clear hP HI
      have hij2 : ¬ ((i : Int) < (i : Int)) := by omega
      by_cases hin : i < n
      · have hlh : i < l.length := by have := HN.out; omega
        obtain ⟨g, o, rfl, c0, c1, c2⟩ := HEL.out _ HW.out i hlh
        obtain ⟨x0, hx0⟩ : ∃ x0, x0 = l[i] := ⟨_, rfl⟩
        rw [← hx0] at c0 c1 c2
        have HX0 := Lib.hid hx0
        clear hx0
        obtain ⟨xa, xb, xc⟩ := x0
        simp only at c0 c1 c2
        obtain ⟨d0, d1, d2⟩ := HBX.out _ HW.out
        have HCL := Lib.hid (fun W => HCM.out ⟨xa, xb, xc⟩ ⟨a, b, c⟩ W)
        simp only [hldC] at HCL
        obtain ⟨q, hq⟩ : ∃ q, q = hldCmp ⟨xa, xb, xc⟩ ⟨a, b, c⟩ := ⟨_, rfl⟩
        rw [← hq] at HCL
        have HQ : Hid (hitH l ⟨a, b, c⟩ i = decide (q = 0)) := Lib.hid (by
          unfold hitH
          rw [hq, HX0.out]
          exact decide_eq_decide.2 ⟨fun h => h.2, fun h => ⟨hlh, h⟩⟩)
        clear hq
        have HST : Hid (∀ W, Below W0.heap.size W0 W → W.cell? ⟨g, o + i * 3, none⟩ = some (.int .i64 xa) ∧ W.cell? ⟨g, o + i * 3 + 1, none⟩ = some (.int .i64 xb) ∧ W.cell? ⟨g, o + i * 3 + 2, none⟩ = some (.int .i64 xc) ∧ W.cell? ⟨w.heap.size, 0, none⟩ = some (.int .i64 a) ∧ W.cell? ⟨w.heap.size, 1, none⟩ = some (.int .i64 b) ∧ W.cell? ⟨w.heap.size, 2, none⟩ = some (.int .i64 c)) := Lib.hid fun W hW => by
          obtain ⟨g2, o2, e2, f0, f1, f2⟩ := HEL.out W hW i hlh
          simp only [Option.some.injEq, Addr.mk.injEq, and_true] at e2
          obtain ⟨rfl, rfl⟩ := e2
          rw [← HX0.out] at f0 f1 f2
          exact ⟨f0, f1, f2, HBX.out W hW⟩
        have hcs := HST.out _ HW.out
        have hi0 : (0 : Int) ≤ (i : Int) := by omega
        have hin2 : (i : Int) < (n : Int) := by omega
        clear HBX HCM
        go_upto_region 8 with fail
        go_region_held3 (fun W => W.cell? ⟨g, o + i * 3, none⟩ = some (.int .i64 xa) ∧ W.cell? ⟨g, o + i * 3 + 1, none⟩ = some (.int .i64 xb) ∧ W.cell? ⟨g, o + i * 3 + 2, none⟩ = some (.int .i64 xc) ∧ W.cell? ⟨w.heap.size, 0, none⟩ = some (.int .i64 a) ∧ W.cell? ⟨w.heap.size, 1, none⟩ = some (.int .i64 b) ∧ W.cell? ⟨w.heap.size, 2, none⟩ = some (.int .i64 c)) (first | exact hcs | exact HST.out _ HJ.out) (first | (go_at_call 107; with_reducible refine Calls.mono (HCL.out _) ?_; rintro e x7 ⟨rfl, b7⟩; have HJ : Hid (Below W0.heap.size W0 x7) := Lib.hid ((HW.out.drew).trans (b7.mono (HW.out.drew).size)); clear b7))
        all_goals (go_wp2; go_ret2; refine ⟨i, HP.out, ?_, HB0.out.trans (HJ.out.mono HB0.out.size)⟩; first | (rw [HQ.out]; done) | (rw [HQ.out]; rfl) | (rw [HQ.out]; simp [Act.eval, Act.put]))
      · have HQ : Hid (hitH l ⟨a, b, c⟩ i = false) := Lib.hid (by
          unfold hitH
          exact decide_eq_false fun h => by have := HN.out; have := h.1; omega)
        have hin2 : ¬ ((i : Int) < (n : Int)) := by omega
        clear HBX HCM HEL
        go_upto_region 8 with fail
        go_region
        all_goals (go_wp2; go_ret2; refine ⟨i, HP.out, ?_, HB0.out.trans ((HW.out.drew).mono HB0.out.size)⟩; first | (rw [HQ.out]; done) | (rw [HQ.out]; rfl) | (rw [HQ.out]; simp [Act.eval, Act.put]))

end Go.Proofs.Ytnfllgeneehjjaa
