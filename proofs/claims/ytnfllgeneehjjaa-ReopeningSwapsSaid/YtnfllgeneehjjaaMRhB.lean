/- slices.BinarySearchFunc on ascending holdings. -/
import Derived.Test.YtnfllgeneehjjaaMRhS
import Derived.IntWalk
set_option linter.unusedSimpArgs false
set_option linter.unusedVariables false
set_option linter.unusedSimpArgs false
set_option linter.unusedVariables false
namespace Go.Proofs.Ytnfllgeneehjjaa
open Go.RowKit Go.Lib Go.Proofs

/-- Where a holding stands, or would stand. -/
structure PosH (l : List Hld) (x : Hld) (i : Nat) : Prop where
  le : i ≤ l.length
  lo : ∀ k (h : k < l.length), k < i → hlt l[k] x
  hi : ∀ k (h : k < l.length), i ≤ k → ¬ hlt l[k] x
def hitH (l : List Hld) (x : Hld) (i : Nat) : Bool := decide (∃ h : i < l.length, hldCmp l[i] x = 0)

theorem asc_get {l : List Hld} (h : l.Pairwise hlt) {i j : Nat} (hi : i < l.length) (hj : j < l.length) (hij : i < j) : hlt l[i] l[j] := List.pairwise_iff_getElem.1 h i j hi hj hij

set_option maxHeartbeats 4000000 in
set_option maxRecDepth 100000 in
theorem bsHld_any (l : List Hld) (x : Hld) (v : Value) (w : World) (hasc : l.Pairwise hlt) (hl : l.length ≤ 1000) (hL : ListAt hldC 3 w v l) :
    Calls Try.prog 106 #[v, .agg (hldC x).toArray, .func (.func 107) #[] #[]] w fun e w' => ∃ i, PosH l x i ∧ e = .returned (.tuple #[.int .i64 (i : Int), .bool (hitH l x i)]) ∧ Below w.heap.size w w' := by
  obtain ⟨ao, cap, rfl, hle, hc⟩ := hL.shape hldF
  obtain ⟨n, hn⟩ : ∃ n, n = l.length := ⟨_, rfl⟩
  obtain ⟨a, b, c⟩ := x
  simp only [hldC]
  obtain ⟨W0, hW0⟩ : ∃ W0, W0 = w.alloc (.cells #[.int .i64 a, .int .i64 b, .int .i64 c] 51) := ⟨_, rfl⟩
  have A1 : W0.heap[w.heap.size]? = some (.cells #[.int .i64 a, .int .i64 b, .int .i64 c] 51 (0, 0)) := by rw [hW0]; exact heap_alloc_new w _
  have HBX : Hid (∀ W, Below W0.heap.size W0 W → W.cell? ⟨w.heap.size, 0, none⟩ = some (.int .i64 a) ∧ W.cell? ⟨w.heap.size, 1, none⟩ = some (.int .i64 b) ∧ W.cell? ⟨w.heap.size, 2, none⟩ = some (.int .i64 c)) := Lib.hid fun W hW => by
    have B1 := (hW.block _ (obj_lt A1)).trans A1
    exact ⟨obj_cell B1 0, obj_cell B1 1, obj_cell B1 2⟩
  have hB0 : Below w.heap.size w W0 := by rw [hW0]; exact below_alloc w _
  have HB0 := Lib.hid hB0
  have HEL : Hid (∀ W, Below W0.heap.size W0 W → ∀ k (h : k < l.length), ∃ g o, ao = some ⟨g, o, none⟩ ∧ W.cell? ⟨g, o + k * 3, none⟩ = some (.int .i64 l[k].sec) ∧ W.cell? ⟨g, o + k * 3 + 1, none⟩ = some (.int .i64 l[k].who) ∧ W.cell? ⟨g, o + k * 3 + 2, none⟩ = some (.int .i64 l[k].amt)) := Lib.hid fun W hW k h => by
    obtain ⟨g, o, h1, h2, h3⟩ := hc (by omega)
    have hb : Below w.heap.size w W := hB0.trans (hW.mono hB0.size)
    have hx : ∀ j, W.cell? ⟨g, o + k * 3 + j, none⟩ = w.cell? ⟨g, o + k * 3 + j, none⟩ := fun j => World.cell?_of_block (hb.block g h2)
    exact ⟨g, o, h1, (hx 0).trans (h3 k h 0 (by omega)), (hx 1).trans (h3 k h 1 (by omega)), (hx 2).trans (h3 k h 2 (by omega))⟩
  have HW0 := Lib.hid hW0
  rw [← hn] at hl ⊢
  have HN := Lib.hid hn
  have HASC := Lib.hid hasc
  have HCM := Lib.hid (fun (x y : Hld) W => rxcompare_any x y W)
  clear hc hL hn hasc A1 hle hB0
  go_enter Try.func106, Try.ntmps106
  go_wp2
  rw [← hW0]
  clear hW0
  go_loopw [9, 10] (fun iv jv wr => ∃ (i j : Nat), iv = .int .i64 (i : Int) ∧ jv = .int .i64 (j : Int) ∧ i ≤ j ∧ j ≤ n ∧ Hid ((∀ k (h : k < l.length), k < i → hlt l[k] ⟨a, b, c⟩) ∧ (∀ k (h : k < l.length), j ≤ k → ¬ hlt l[k] ⟨a, b, c⟩)) ∧ Hid (Below W0.heap.size W0 wr)) (fun iv jv _ => (RowKit.intOf jv).toNat - (RowKit.intOf iv).toNat)
  case atStart => exact ⟨0, n, rfl, by first | rfl | go_num, by omega, by omega, Lib.hid ⟨fun k _ h => by omega, fun k h h2 => by have := HN.out; omega⟩, Lib.hid (Below.refl _ _)⟩
  case round =>
    obtain ⟨i, j, rfl, rfl, hij, hjn, HI, HW⟩ := hrel
    by_cases hlj : i < j
    · obtain ⟨h, hh⟩ : ∃ h, h = (i + j) / 2 := ⟨_, rfl⟩
      have hh1 : i ≤ h ∧ h < j := by omega
      have hlh : h < l.length := by have := HN.out; omega
      obtain ⟨g, o, rfl, c0, c1, c2⟩ := HEL.out _ HW.out h hlh
      have HH := Lib.hid hh
      have hij2 : (i : Int) < (j : Int) := by omega
      have hd : ((i : Int) + (j : Int)) / 2 = (h : Int) := by omega
      have hh0 : (0 : Int) ≤ (h : Int) := by omega
      have hhn : (h : Int) < (n : Int) := by omega
      obtain ⟨x0, hx0⟩ : ∃ x0, x0 = l[h] := ⟨_, rfl⟩
      rw [← hx0] at c0 c1 c2
      have HX0 := Lib.hid hx0
      clear hh hx0
      obtain ⟨xa, xb, xc⟩ := x0
      simp only at c0 c1 c2
      obtain ⟨d0, d1, d2⟩ := HBX.out _ HW.out
      have HCL := Lib.hid (fun W => HCM.out ⟨xa, xb, xc⟩ ⟨a, b, c⟩ W)
      simp only [hldC] at HCL
      obtain ⟨q, hq⟩ : ∃ q, q = hldCmp ⟨xa, xb, xc⟩ ⟨a, b, c⟩ := ⟨_, rfl⟩
      rw [← hq] at HCL
      have HQ := Lib.hid hq
      clear hq
      have HST : Hid (∀ W, Below W0.heap.size W0 W → W.cell? ⟨g, o + h * 3, none⟩ = some (.int .i64 xa) ∧ W.cell? ⟨g, o + h * 3 + 1, none⟩ = some (.int .i64 xb) ∧ W.cell? ⟨g, o + h * 3 + 2, none⟩ = some (.int .i64 xc) ∧ W.cell? ⟨w.heap.size, 0, none⟩ = some (.int .i64 a) ∧ W.cell? ⟨w.heap.size, 1, none⟩ = some (.int .i64 b) ∧ W.cell? ⟨w.heap.size, 2, none⟩ = some (.int .i64 c)) := Lib.hid fun W hW => by
        obtain ⟨g2, o2, e2, f0, f1, f2⟩ := HEL.out W hW h hlh
        simp only [Option.some.injEq, Addr.mk.injEq, and_true] at e2
        obtain ⟨rfl, rfl⟩ := e2
        rw [← HX0.out] at f0 f1 f2
        exact ⟨f0, f1, f2, HBX.out W hW⟩
      have hcs := HST.out _ HW.out
      clear HBX HCM
      go_upto_region 5 with fail
      go_region_held3 (fun W => W.cell? ⟨g, o + h * 3, none⟩ = some (.int .i64 xa) ∧ W.cell? ⟨g, o + h * 3 + 1, none⟩ = some (.int .i64 xb) ∧ W.cell? ⟨g, o + h * 3 + 2, none⟩ = some (.int .i64 xc) ∧ W.cell? ⟨w.heap.size, 0, none⟩ = some (.int .i64 a) ∧ W.cell? ⟨w.heap.size, 1, none⟩ = some (.int .i64 b) ∧ W.cell? ⟨w.heap.size, 2, none⟩ = some (.int .i64 c)) (first | exact hcs | exact HST.out _ HJ.out) (first | (go_at_call 107; with_reducible refine Calls.mono (HCL.out _) ?_; rintro e x7 ⟨rfl, b7⟩; have HJ : Hid (Below W0.heap.size W0 x7) := Lib.hid ((HW.out.drew).trans (b7.mono (HW.out.drew).size)); clear b7))
      clear hcs c0 c1 c2 d0 d1 d2
      by_cases hq0 : q < 0
      · have HLT : Hid (hlt l[h] ⟨a, b, c⟩) := Lib.hid (by rw [← HX0.out]; exact hldCmp_lt.1 (by rw [← HQ.out]; exact hq0))
        go_wp2
        go_roundw
        case rel => exact ⟨h + 1, j, by first | rfl | go_num, rfl, by omega, hjn, Lib.hid ⟨fun k hk hkh => (by
          by_cases e : k = h
          · subst e; exact HLT.out
          · exact hlt_trans (asc_get HASC.out hk hlh (by omega)) HLT.out), HI.out.2⟩, HJ⟩
        case measure => simp [RowKit.intOf]; omega
      · have HLT : Hid (¬ hlt l[h] ⟨a, b, c⟩) := Lib.hid (by rw [← HX0.out]; exact fun e => hq0 (by rw [HQ.out]; exact hldCmp_lt.2 e))
        go_wp2
        go_roundw
        case rel => exact ⟨i, h, rfl, by first | rfl | go_num, by omega, by omega, Lib.hid ⟨HI.out.1, fun k hk hkh e => (by
          by_cases e2 : k = h
          · subst e2; exact HLT.out e
          · exact HLT.out (hlt_trans (asc_get HASC.out hlh hk (by omega)) e))⟩, HJ⟩
        case measure => simp [RowKit.intOf]; omega
    · obtain rfl : i = j := by omega
      have hP : PosH l ⟨a, b, c⟩ i := ⟨by have := HN.out; omega, HI.out.1, HI.out.2⟩
      have HP := Lib.hid hP
      clear hP HI
      have hij2 : ¬ ((i : Int) < (i : Int)) := by omega
      by_cases hin : i < n
      · have hlh : i < l.length := by have := HN.out; omega
        obtain ⟨g, o, rfl, c0, c1, c2⟩ := HEL.out _ HW.out i hlh
        obtain ⟨x0, hx0⟩ : ∃ x0, x0 = l[i] := ⟨_, rfl⟩
        rw [← hx0] at c0 c1 c2
        have HX0 := Lib.hid hx0
        clear hx0
        obtain ⟨xa, xb, xc⟩ := x0
        simp only at c0 c1 c2
        obtain ⟨d0, d1, d2⟩ := HBX.out _ HW.out
        have HCL := Lib.hid (fun W => HCM.out ⟨xa, xb, xc⟩ ⟨a, b, c⟩ W)
        simp only [hldC] at HCL
        obtain ⟨q, hq⟩ : ∃ q, q = hldCmp ⟨xa, xb, xc⟩ ⟨a, b, c⟩ := ⟨_, rfl⟩
        rw [← hq] at HCL
        have HQ : Hid (hitH l ⟨a, b, c⟩ i = decide (q = 0)) := Lib.hid (by
          unfold hitH
          rw [hq, HX0.out]
          exact decide_eq_decide.2 ⟨fun h => h.2, fun h => ⟨hlh, h⟩⟩)
        clear hq
        have HST : Hid (∀ W, Below W0.heap.size W0 W → W.cell? ⟨g, o + i * 3, none⟩ = some (.int .i64 xa) ∧ W.cell? ⟨g, o + i * 3 + 1, none⟩ = some (.int .i64 xb) ∧ W.cell? ⟨g, o + i * 3 + 2, none⟩ = some (.int .i64 xc) ∧ W.cell? ⟨w.heap.size, 0, none⟩ = some (.int .i64 a) ∧ W.cell? ⟨w.heap.size, 1, none⟩ = some (.int .i64 b) ∧ W.cell? ⟨w.heap.size, 2, none⟩ = some (.int .i64 c)) := Lib.hid fun W hW => by
          obtain ⟨g2, o2, e2, f0, f1, f2⟩ := HEL.out W hW i hlh
          simp only [Option.some.injEq, Addr.mk.injEq, and_true] at e2
          obtain ⟨rfl, rfl⟩ := e2
          rw [← HX0.out] at f0 f1 f2
          exact ⟨f0, f1, f2, HBX.out W hW⟩
        have hcs := HST.out _ HW.out
        have hi0 : (0 : Int) ≤ (i : Int) := by omega
        have hin2 : (i : Int) < (n : Int) := by omega
        clear HBX HCM
        go_upto_region 8 with fail
        go_region_held3 (fun W => W.cell? ⟨g, o + i * 3, none⟩ = some (.int .i64 xa) ∧ W.cell? ⟨g, o + i * 3 + 1, none⟩ = some (.int .i64 xb) ∧ W.cell? ⟨g, o + i * 3 + 2, none⟩ = some (.int .i64 xc) ∧ W.cell? ⟨w.heap.size, 0, none⟩ = some (.int .i64 a) ∧ W.cell? ⟨w.heap.size, 1, none⟩ = some (.int .i64 b) ∧ W.cell? ⟨w.heap.size, 2, none⟩ = some (.int .i64 c)) (first | exact hcs | exact HST.out _ HJ.out) (first | (go_at_call 107; with_reducible refine Calls.mono (HCL.out _) ?_; rintro e x7 ⟨rfl, b7⟩; have HJ : Hid (Below W0.heap.size W0 x7) := Lib.hid ((HW.out.drew).trans (b7.mono (HW.out.drew).size)); clear b7))
        all_goals (go_wp2; go_ret2; refine ⟨i, HP.out, ?_, HB0.out.trans (HJ.out.mono HB0.out.size)⟩; first | (rw [HQ.out]; done) | (rw [HQ.out]; rfl) | (rw [HQ.out]; simp [Act.eval, Act.put]))
      · have HQ : Hid (hitH l ⟨a, b, c⟩ i = false) := Lib.hid (by
          unfold hitH
          exact decide_eq_false fun h => by have := HN.out; have := h.1; omega)
        have hin2 : ¬ ((i : Int) < (n : Int)) := by omega
        clear HBX HCM HEL
        go_upto_region 8 with fail
        go_region
        all_goals (go_wp2; go_ret2; refine ⟨i, HP.out, ?_, HB0.out.trans ((HW.out.drew).mono HB0.out.size)⟩; first | (rw [HQ.out]; done) | (rw [HQ.out]; rfl) | (rw [HQ.out]; simp [Act.eval, Act.put]))

end Go.Proofs.Ytnfllgeneehjjaa
