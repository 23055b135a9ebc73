/- slices.BinarySearchFunc on ascending securities, by their IDs (register.Add's). -/
import Derived.Test.YtnfllgeneehjjaaMG2
import Derived.Test.YtnfllgeneehjjaaMG4
import Derived.Test.YtnfllgeneehjjaaMG1
import Derived.Deep.DeepCutAuto
import Derived.IntWalk
import Derived.Shelf.Abstract
set_option linter.unusedSimpArgs false
set_option linter.unusedVariables false
set_option linter.unusedSimpArgs false
set_option linter.unusedVariables false
namespace Go.Proofs.Ytnfllgeneehjjaa
open Go.RowKit Go.Lib Go.Proofs

theorem rxAddC_any (s : Sec) (id : Int) (w : World) : Calls Try.prog 66 #[.agg s.cells.toArray, .int .i64 id] w fun e w' => e = .returned (.int .i64 (cmpI s.id id)) ∧ Below w.heap.size w w' := by
  obtain ⟨s0, s1, s2, s3, s4, s5, s6⟩ := s
  simp only [Sec.cells]
  have HB := Lib.hid (below_alloc w (.cells #[.int .i64 s0, .int .i64 s1, .int .i64 s2, .int .i64 s3, .int .i64 s4, .int .i64 s5, .bool s6] 34))
  have HC := Lib.hid (fun W => cmpInt_any s0 id W)
  obtain ⟨q, hq⟩ : ∃ q, q = cmpI s0 id := ⟨_, rfl⟩
  rw [← hq] at HC ⊢
  clear hq
  go_enter Try.func66, Try.ntmps66
  go_wp2_with (go_at_call 67; with_reducible refine Calls.mono (HC.out _) ?_; rintro e w' ⟨rfl, rfl⟩)
  go_ret
  exact ⟨rfl, HB.out⟩

/-- Where a security stands, or would stand. -/
structure PosS (l : List Sec) (id : Int) (i : Nat) : Prop where
  le : i ≤ l.length
  lo : ∀ k (h : k < l.length), k < i → l[k].id < id
  hi : ∀ k (h : k < l.length), i ≤ k → id ≤ l[k].id
def hitS (l : List Sec) (id : Int) (i : Nat) : Bool := decide (∃ h : i < l.length, l[i].id = id)
theorem cmpI_lt {a b : Int} : cmpI a b < 0 ↔ a < b := by unfold cmpI; repeat' split
                                                         all_goals omega
theorem cmpI_eq {a b : Int} : cmpI a b = 0 ↔ a = b := by unfold cmpI; repeat' split
                                                         all_goals omega

set_option maxHeartbeats 4000000 in
set_option maxRecDepth 100000 in
theorem bsSec_any (l : List Sec) (id : Int) (v : Value) (w : World) (hasc : l.Pairwise fun a b => a.id < b.id) (hl : l.length ≤ 1000) (hL : ListAt Sec.cells 7 w v l) :
    Calls Try.prog 65 #[v, .int .i64 id, .func (.func 66) #[] #[]] w fun e w' => ∃ i, PosS l id i ∧ e = .returned (.tuple #[.int .i64 (i : Int), .bool (hitS l id i)]) ∧ Below w.heap.size w w' := by
  obtain ⟨ao, cap, rfl, hle, hc⟩ := hL.shape secF
  obtain ⟨n, hn⟩ : ∃ n, n = l.length := ⟨_, rfl⟩
  have HC := Lib.hid hc
  rw [← hn] at hl ⊢
  have HN := Lib.hid hn
  have HASC := Lib.hid (fun i j (hi : i < l.length) (hj : j < l.length) (h : i < j) => List.pairwise_iff_getElem.1 hasc i j hi hj h)
  have HCM := Lib.hid (fun (s : Sec) W => rxAddC_any s id W)
  have eg := enters_of Try.func66 (by kernel_rfl) rfl
  clear hc hL hn hasc hle
  go_enter Try.func65, Try.ntmps65
  go_wp2
  go_loopw [9, 10] (fun iv jv wr => ∃ (i j : Nat), iv = .int .i64 (i : Int) ∧ jv = .int .i64 (j : Int) ∧ i ≤ j ∧ j ≤ n ∧ Hid ((∀ k (h : k < l.length), k < i → l[k].id < id) ∧ (∀ k (h : k < l.length), j ≤ k → id ≤ l[k].id)) ∧ Hid (Below w.heap.size w wr)) (fun iv jv _ => (RowKit.intOf jv).toNat - (RowKit.intOf iv).toNat)
  case atStart => exact ⟨0, n, rfl, by first | rfl | go_num, by omega, by omega, Lib.hid ⟨fun k _ h => by omega, fun k h h2 => by have := HN.out; omega⟩, Lib.hid (Below.refl _ _)⟩
  case round =>
    obtain ⟨i, j, rfl, rfl, hij, hjn, HI, HW⟩ := hrel
    by_cases hlj : i < j
    · obtain ⟨h, hh⟩ : ∃ h, h = (i + j) / 2 := ⟨_, rfl⟩
      have hh1 : i ≤ h ∧ h < j := by omega
      have hlh : h < l.length := by have := HN.out; omega
      obtain ⟨g, o, rfl, hgl, hcc⟩ := HC.out (by omega)
      have hcell := fun y (hy : y < 7) => (HW.out.cell (p := ⟨g, o + h * 7 + y, none⟩) hgl).trans (hcc h hlh y hy)
      have hij2 : (i : Int) < (j : Int) := by omega
      have hd : ((i : Int) + (j : Int)) / 2 = (h : Int) := by omega
      have hh0 : (0 : Int) ≤ (h : Int) := by omega
      have hhn : (h : Int) < (n : Int) := by omega
      have HCX := Lib.hid (fun W => HCM.out l[h] W)
      have HLT : Hid (l[h].id < id → ∀ k (hk : k < l.length), k < h + 1 → l[k].id < id) := Lib.hid fun e k hk hkh => by
        by_cases e2 : k = h
        · subst e2; exact e
        · have := HASC.out k h hk hlh (by omega); omega
      have HGE : Hid (¬ l[h].id < id → ∀ k (hk : k < l.length), h ≤ k → id ≤ l[k].id) := Lib.hid fun e k hk hkh => by
        by_cases e2 : k = h
        · subst e2; omega
        · have := HASC.out h k hlh hk (by omega); omega
      generalize l[h] = x0 at *
      obtain ⟨x0, x1, x2, x3, x4, x5, x6⟩ := x0
      simp only at HLT HGE
      simp only [Sec.cells] at HCX
      have c0 : wr.cell? ⟨g, o + h * 7, none⟩ = some (.int .i64 x0) := hcell 0 (by omega)
      have c1 : wr.cell? ⟨g, o + h * 7 + 1, none⟩ = some (.int .i64 x1) := hcell 1 (by omega)
      have c2 : wr.cell? ⟨g, o + h * 7 + 2, none⟩ = some (.int .i64 x2) := hcell 2 (by omega)
      have c3 : wr.cell? ⟨g, o + h * 7 + 3, none⟩ = some (.int .i64 x3) := hcell 3 (by omega)
      have c4 : wr.cell? ⟨g, o + h * 7 + 4, none⟩ = some (.int .i64 x4) := hcell 4 (by omega)
      have c5 : wr.cell? ⟨g, o + h * 7 + 5, none⟩ = some (.int .i64 x5) := hcell 5 (by omega)
      have c6 : wr.cell? ⟨g, o + h * 7 + 6, none⟩ = some (.bool x6) := hcell 6 (by omega)
      obtain ⟨q, hq⟩ : ∃ q, q = cmpI x0 id := ⟨_, rfl⟩
      rw [← hq] at HCX
      have HQ := Lib.hid hq
      clear hq hh hcell hcc
      go_wp2_with fail
      with_reducible refine Calls.mono (HCX.out _) ?_
      rintro e x7 ⟨rfl, b7⟩
      have HJ : Hid (Below w.heap.size w x7) := Lib.hid (HW.out.trans (b7.mono HW.out.size))
      clear b7 c0 c1 c2 c3 c4 c5 c6
      by_cases hq0 : q < 0
      · have h2 := Lib.hid (HLT.out (cmpI_lt.1 (by rw [← HQ.out]; exact hq0)))
        clear HLT HGE
        go_wp2
        go_roundw
        case rel => exact ⟨h + 1, j, by first | rfl | go_num, rfl, by omega, hjn, Lib.hid ⟨h2.out, HI.out.2⟩, HJ⟩
        case measure => simp [RowKit.intOf]; omega
      · have h2 := Lib.hid (HGE.out (by
          by_cases e : x0 < id
          · exact absurd (by rw [HQ.out]; exact cmpI_lt.2 e) hq0
          · omega))
        clear HLT HGE
        go_wp2
        go_roundw
        case rel => exact ⟨i, h, rfl, by first | rfl | go_num, by omega, by omega, Lib.hid ⟨HI.out.1, h2.out⟩, HJ⟩
        case measure => simp [RowKit.intOf]; omega
    · obtain rfl : i = j := by omega
      have HP := Lib.hid (⟨by have := HN.out; omega, HI.out.1, HI.out.2⟩ : PosS l id i)
      clear HI
      have hij2 : ¬ ((i : Int) < (i : Int)) := by omega
      by_cases hin : i < n
      · have hlh : i < l.length := by have := HN.out; omega
        obtain ⟨g, o, rfl, hgl, hcc⟩ := HC.out (by omega)
        have hcell := fun y (hy : y < 7) => (HW.out.cell (p := ⟨g, o + i * 7 + y, none⟩) hgl).trans (hcc i hlh y hy)
        have HCX := Lib.hid (fun W => HCM.out l[i] W)
        have HQ : Hid (hitS l id i = decide (cmpI l[i].id id = 0)) := Lib.hid (by
          unfold hitS
          exact decide_eq_decide.2 ⟨fun h => cmpI_eq.2 h.2, fun h => ⟨hlh, cmpI_eq.1 h⟩⟩)
        generalize l[i] = x0 at *
        obtain ⟨x0, x1, x2, x3, x4, x5, x6⟩ := x0
        simp only at HQ
        simp only [Sec.cells] at HCX
        have c0 : wr.cell? ⟨g, o + i * 7, none⟩ = some (.int .i64 x0) := hcell 0 (by omega)
        have c1 : wr.cell? ⟨g, o + i * 7 + 1, none⟩ = some (.int .i64 x1) := hcell 1 (by omega)
        have c2 : wr.cell? ⟨g, o + i * 7 + 2, none⟩ = some (.int .i64 x2) := hcell 2 (by omega)
        have c3 : wr.cell? ⟨g, o + i * 7 + 3, none⟩ = some (.int .i64 x3) := hcell 3 (by omega)
        have c4 : wr.cell? ⟨g, o + i * 7 + 4, none⟩ = some (.int .i64 x4) := hcell 4 (by omega)
        have c5 : wr.cell? ⟨g, o + i * 7 + 5, none⟩ = some (.int .i64 x5) := hcell 5 (by omega)
        have c6 : wr.cell? ⟨g, o + i * 7 + 6, none⟩ = some (.bool x6) := hcell 6 (by omega)
        generalize cmpI x0 id = q at *
        have hi0 : (0 : Int) ≤ (i : Int) := by omega
        have hin2 : (i : Int) < (n : Int) := by omega
        clear hcell hcc HCM
        go_wp2_with fail
        with_reducible refine Calls.mono (HCX.out _) ?_
        rintro e x7 ⟨rfl, b7⟩
        have HJ : Hid (Below w.heap.size w x7) := Lib.hid (HW.out.trans (b7.mono HW.out.size))
        clear b7 c0 c1 c2 c3 c4 c5 c6
        go_wp2
        go_ret2
        refine ⟨i, HP.out, ?_, HJ.out⟩
        first | (rw [HQ.out]; done) | (rw [HQ.out]; rfl) | (rw [HQ.out]; simp [Act.eval, Act.put])
      · have HQ : Hid (hitS l id i = false) := Lib.hid (by
          unfold hitS
          exact decide_eq_false fun h => by have := HN.out; have := h.1; omega)
        have hin2 : ¬ ((i : Int) < (n : Int)) := by omega
        clear HCM
        go_wp2
        go_ret2
        refine ⟨i, HP.out, ?_, HW.out⟩
        first | (rw [HQ.out]; done) | (rw [HQ.out]; rfl) | (rw [HQ.out]; simp [Act.eval, Act.put])

end Go.Proofs.Ytnfllgeneehjjaa
