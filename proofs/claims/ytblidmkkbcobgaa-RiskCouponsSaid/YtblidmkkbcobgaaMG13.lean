/- Texts of one claim, merged: SrvD, EqSrv, RhU, InsSec, RhV, RhX. -/
import Derived.Test.YtblidmkkbcobgaaMG3
import Derived.Deep.QuietTactic
import Derived.Laws.StructEq
import Derived.Test.YtblidmkkbcobgaaMG2
import Derived.Test.YtblidmkkbcobgaaMG4
import Derived.Deep.DeepCutAuto
import Derived.IntWalk
import Derived.Shelf.Abstract
import Derived.Maps.AppendAt
import Derived.Tactics2
import Derived.Shelf.RegionOpenPlain
import Derived.Test.YtblidmkkbcobgaaMG9
/- Services, compared; of no function of the program; no condition. -/
set_option linter.unusedSimpArgs false
set_option linter.unusedVariables false
namespace Go.Proofs.Ytblidmkkbcobgaa
open Go.RowKit Go.Lib Go.Proofs

instance : DecidableEq Srv := fun a b => decidable_of_iff (a.year = b.year ∧ a.int = b.int ∧ a.prin = b.prin ∧ a.debt = b.debt) (by cases a; cases b; simp)

end Go.Proofs.Ytblidmkkbcobgaa

/- slices.Equal at a struct of 4 ints. -/
set_option linter.unusedSimpArgs false
set_option linter.unusedVariables false
namespace Go.Proofs.Ytblidmkkbcobgaa
open Go.RowKit Go.Lib Go.Proofs

theorem neqSSrv (x0 x1 x2 x3 : Int) (W : World) : (binOp .neq 38 (.agg #[.int .i64 x0, .int .i64 x1, .int .i64 x2, .int .i64 x3]) (.agg #[.int .i64 x0, .int .i64 x1, .int .i64 x2, .int .i64 x3])).run Try.prog W = .ok (.bool false) W := by
  rw [run_neq_struct]
  simp [go_sem]
theorem neqDSrv (x0 x1 x2 x3 y0 y1 y2 y3 : Int) (hne : ¬ (x0 = y0 ∧ x1 = y1 ∧ x2 = y2 ∧ x3 = y3)) (W : World) : (binOp .neq 38 (.agg #[.int .i64 x0, .int .i64 x1, .int .i64 x2, .int .i64 x3]) (.agg #[.int .i64 y0, .int .i64 y1, .int .i64 y2, .int .i64 y3])).run Try.prog W = .ok (.bool true) W := by
  rw [run_neq_struct]
  by_cases h0 : x0 = y0
  case neg =>
    have e : (x0 == y0) = false := beq_eq_false_iff_ne.2 h0
    simp [go_sem, e]
  by_cases h1 : x1 = y1
  case neg =>
    have e : (x1 == y1) = false := beq_eq_false_iff_ne.2 h1
    simp [go_sem, e]
  by_cases h2 : x2 = y2
  case neg =>
    have e : (x2 == y2) = false := beq_eq_false_iff_ne.2 h2
    simp [go_sem, e]
  have e : (x3 == y3) = false := beq_eq_false_iff_ne.2 (fun h => hne ⟨h0, h1, h2, h⟩)
  subst h0
  subst h1
  subst h2
  simp [go_sem, e]

set_option maxRecDepth 100000 in
set_option maxHeartbeats 4000000 in
theorem eqSrv_any (v v2 : Value) (l m : List Srv) (w : World) (h : ListAt srvC 4 w v l) (h2 : ListAt srvC 4 w v2 m) (hlen : l.length ≤ 1000000) (hlen2 : m.length ≤ 1000000) :
    Calls Try.prog 53 #[v, v2] w fun e w' => e = .returned (.bool (decide (l = m))) ∧ Below w.heap.size w w' := by
  obtain ⟨r, hr⟩ : ∃ r, r = decide (l = m) := ⟨_, rfl⟩
  have HR := Lib.hid hr
  rw [← hr]
  clear hr
  obtain ⟨ao, cap, rfl, hcap, hcells⟩ := h.shape srvF
  obtain ⟨ao2, cap2, rfl, hcap2, hcells2⟩ := h2.shape srvF
  have HC := Lib.hid hcells
  have HC2 := Lib.hid hcells2
  clear hcells hcells2 h h2
  by_cases hn : l.length = m.length
  case neg =>
    obtain rfl : r = false := HR.out.trans (decide_eq_false fun e => hn (by rw [e]))
    obtain ⟨n1, hn1⟩ : ∃ n1, n1 = l.length := ⟨_, rfl⟩
    obtain ⟨n2, hn2⟩ : ∃ n2, n2 = m.length := ⟨_, rfl⟩
    have hne : ((n1 : Int) == (n2 : Int)) = false := by rw [beq_eq_false_iff_ne, hn1, hn2]; omega
    have hne2 : ((n1 : Int) != (n2 : Int)) = true := by rw [bne, hne]; rfl
    rw [← hn1, ← hn2]
    rw [← hn1] at hcap hlen
    rw [← hn2] at hcap2 hlen2
    clear hn hn1 hn2
    go_enter Try.func53, Try.ntmps53
    go_wp2
    go_ret
    exact ⟨rfl, Below.refl _ _⟩
  obtain ⟨n, hnn⟩ : ∃ n, n = l.length := ⟨_, rfl⟩
  have HN := Lib.hid hnn
  have HM : Hid (n = m.length) := Lib.hid (hnn.trans hn)
  rw [← hnn] at hcap hlen
  rw [← hn, ← hnn] at hcap2
  rw [← hn, ← hnn]
  clear hn hnn hlen2
  go_enter Try.func53, Try.ntmps53
  go_wp2
  go_loopw [13] (fun i wr => ∃ k : Nat, i = .int .i64 k ∧ k ≤ n ∧ Hid (l.take k = m.take k) ∧ Hid (Below w.heap.size w wr)) (fun i _ => n - (RowKit.intOf i).toNat)
  case atStart => exact ⟨0, rfl, by omega, Lib.hid (by simp), Lib.hid (Below.refl _ _)⟩
  case round =>
    obtain ⟨k, rfl, hkn, HF, HB⟩ := hrel
    by_cases hlt : k < n
    · have hkl : k < l.length := by rw [← HN.out]; exact hlt
      have hkm : k < m.length := by rw [← HM.out]; exact hlt
      obtain ⟨b, o, rfl, hb, hc⟩ := HC.out (by omega)
      obtain ⟨b2, o2, rfl, hb2, hc2⟩ := HC2.out (by omega)
      have hcell := fun j (hj : j < 4) => (HB.out.cell (p := ⟨b, o + k * 4 + j, none⟩) hb).trans (hc k hkl j hj)
      have dcell := fun j (hj : j < 4) => (HB.out.cell (p := ⟨b2, o2 + k * 4 + j, none⟩) hb2).trans (hc2 k hkm j hj)
      have hk0 : (0 : Int) ≤ (k : Int) := by omega
      have hk1 : (k : Int) < (n : Int) := by omega
      have HDF : Hid (l[k] ≠ m[k] → r = false) := Lib.hid fun hd => by
        rw [HR.out]
        refine decide_eq_false fun e => hd ?_
        subst e; rfl
      have HEQ : Hid (l[k] = m[k] → l.take (k + 1) = m.take (k + 1)) := Lib.hid fun hd => by
        rw [List.take_succ_eq_append_getElem hkl, List.take_succ_eq_append_getElem hkm, HF.out, hd]
      generalize l[k] = x at *
      generalize m[k] = y at *
      obtain ⟨x0, x1, x2, x3⟩ := x
      obtain ⟨y0, y1, y2, y3⟩ := y
      have c0 := hcell 0 (by omega)
      have d0 := dcell 0 (by omega)
      have c1 := hcell 1 (by omega)
      have d1 := dcell 1 (by omega)
      have c2 := hcell 2 (by omega)
      have d2 := dcell 2 (by omega)
      have c3 := hcell 3 (by omega)
      have d3 := dcell 3 (by omega)
      simp [srvC] at c0 d0 c1 d1 c2 d2 c3 d3
      clear hc hc2 HC HC2 hcell dcell
      by_cases heq : x0 = y0 ∧ x1 = y1 ∧ x2 = y2 ∧ x3 = y3
      · obtain ⟨rfl, rfl, rfl, rfl⟩ := heq
        have HF2 := Lib.hid (HEQ.out rfl)
        have hne := fun W => neqSSrv x0 x1 x2 x3 W
        go_wp2
        go_quiet (fail)
        go_wp2
        go_roundw
        case rel => exact ⟨k + 1, by first | rfl | go_num, by omega, HF2, Lib.hid (below_drewN HB.out _)⟩
        case measure => simp [RowKit.intOf]; omega
      · have hne := fun W => neqDSrv x0 x1 x2 x3 y0 y1 y2 y3 heq W
        obtain rfl : r = false := HDF.out (fun e => heq (by injection e with e0 e1 e2 e3; exact ⟨e0, e1, e2, e3⟩))
        clear heq
        go_wp2
        go_quiet (fail)
        go_wp2
        go_ret
        exact ⟨rfl, below_drewN HB.out _⟩
    · obtain rfl : k = n := by omega
      obtain rfl : r = true := HR.out.trans (decide_eq_true (by
        have h := HF.out
        rw [HN.out, List.take_length, ← HN.out, HM.out, List.take_length] at h
        exact h))
      go_wp2
      go_ret
      exact ⟨rfl, HB.out⟩

end Go.Proofs.Ytblidmkkbcobgaa


/- slices.BinarySearchFunc on ascending securities, by their IDs (register.Add's). -/
set_option linter.unusedSimpArgs false
set_option linter.unusedVariables false
namespace Go.Proofs.Ytblidmkkbcobgaa
open Go.RowKit Go.Lib Go.Proofs

/-- Where a security stands, or would stand. -/
structure PosS (l : List Sec) (id : Int) (i : Nat) : Prop where
  le : i ≤ l.length
  lo : ∀ k (h : k < l.length), k < i → l[k].id < id
  hi : ∀ k (h : k < l.length), i ≤ k → id ≤ l[k].id
def hitS (l : List Sec) (id : Int) (i : Nat) : Bool := decide (∃ h : i < l.length, l[i].id = id)
theorem cmpI_lt {a b : Int} : cmpI a b < 0 ↔ a < b := by unfold cmpI; repeat' split
                                                         all_goals omega
theorem cmpI_eq {a b : Int} : cmpI a b = 0 ↔ a = b := by unfold cmpI; repeat' split
                                                         all_goals omega

end Go.Proofs.Ytblidmkkbcobgaa

/- slices.Insert of one element into a row of the call's own (elements of 7 cells): behind the end, where there is room, into a new row. -/
set_option linter.unusedSimpArgs false
set_option linter.unusedVariables false
namespace Go.Proofs.Ytblidmkkbcobgaa
open Go.RowKit Go.Lib Go.Proofs

theorem infoISec : (Try.prog.info? 55).map (fun i => (i.zero, i.size, i.bytes)) = some (some (.agg #[.int .i64 0, .int .i64 0, .int .i64 0, .int .i64 0, .int .i64 0, .int .i64 0, .bool false]), 7, 56) := by kernel_rfl
theorem undISec : Try.prog.underlying 25 = some (.slice 55) := by kernel_rfl
theorem sizISec : (Try.prog.info? 55).map (·.size) = some 7 := by kernel_rfl

end Go.Proofs.Ytblidmkkbcobgaa


/- register.Add: a right security more. -/
set_option linter.unusedSimpArgs false
set_option linter.unusedVariables false
namespace Go.Proofs.Ytblidmkkbcobgaa
open Go.RowKit Go.Lib Go.Proofs

def insS (r : Reg) (s : Sec) (i : Nat) : Reg := ⟨r.secs.take i ++ s :: r.secs.drop i, r.hs, r.ms⟩

end Go.Proofs.Ytblidmkkbcobgaa

/- The chapter's example of the register. -/
set_option linter.unusedSimpArgs false
set_option linter.unusedVariables false
namespace Go.Proofs.Ytblidmkkbcobgaa
open Go.RowKit Go.Lib Go.Proofs

def bondS : Sec := ⟨1, 100, 0, 360, 5000, 6, false⟩
def exR1 : Reg := ⟨[bondS], [], []⟩
def exM1 : Mv := ⟨0, 0, 1, 1, 0, 1, 1000⟩
def exR2 : Reg := ⟨[bondS], [⟨1, 1, 1000⟩], [⟨1, 0, 1, 1, 0, 1, 1000⟩]⟩
def exM2 : Mv := ⟨0, 1, 2, 1, 1, 2, 400⟩
def exR3 : Reg := ⟨[bondS], [⟨1, 1, 600⟩, ⟨1, 2, 400⟩], [⟨1, 0, 1, 1, 0, 1, 1000⟩, ⟨2, 1, 2, 1, 1, 2, 400⟩]⟩
theorem bond_ok : SecR bondS := ⟨6, 2, by constructor <;> simp [bondS]⟩
theorem secs_ex : SecsOk [bondS] := ⟨fun s hs => by rw [List.mem_singleton] at hs; rw [hs]; exact bond_ok, List.pairwise_singleton _ _, by decide⟩
theorem ok_none : RegOk Reg.none := ⟨⟨fun s hs => by simp [Reg.none] at hs, List.Pairwise.nil, by decide⟩, by decide, rfl⟩
theorem ok_ex1 : RegOk exR1 := ⟨secs_ex, by decide, rfl⟩
theorem ok_ex2 : RegOk exR2 := ⟨secs_ex, by decide, by decide⟩
theorem ok_ex3 : RegOk exR3 := ⟨secs_ex, by decide, by decide⟩
theorem ex_add1 : addE exR1 exM1 = 0 := by unfold addE; rw [checkR_ok ok_ex1]; decide
theorem ex_add2 : addE exR2 exM2 = 0 := by unfold addE; rw [checkR_ok ok_ex2]; decide
theorem ex_r2 : addV exR1 exM1 = exR2 := by unfold addV; rw [if_pos ex_add1]; rfl
theorem ex_r3 : addV exR2 exM2 = exR3 := by unfold addV; rw [if_pos ex_add2]; rfl
theorem ex_h1 : heldR exR3 1 1 = 600 := by unfold heldR; rw [if_pos (checkR_ok ok_ex3)]; decide
theorem ex_h2 : heldR exR3 1 2 = 400 := by unfold heldR; rw [if_pos (checkR_ok ok_ex3)]; decide
theorem ex_o : outR exR3 1 = 1000 := by unfold outR; rw [if_pos (checkR_ok ok_ex3)]; decide

end Go.Proofs.Ytblidmkkbcobgaa
