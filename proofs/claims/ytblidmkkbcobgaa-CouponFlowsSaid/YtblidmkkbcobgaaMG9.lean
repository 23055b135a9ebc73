/- Texts of one claim, merged: RhU, InsSec, RhV, RhX. -/
import Derived.Test.YtblidmkkbcobgaaMG1
import Derived.Test.YtblidmkkbcobgaaMG3
import Derived.Deep.DeepCutAuto
import Derived.IntWalk
import Derived.Shelf.Abstract
import Derived.Maps.AppendAt
import Derived.Tactics2
import Derived.Shelf.RegionOpenPlain
import Derived.Test.YtblidmkkbcobgaaMG6
/- slices.BinarySearchFunc on ascending securities, by their IDs (register.Add's). -/
set_option linter.unusedSimpArgs false
set_option linter.unusedVariables false
set_option linter.unusedSimpArgs false
set_option linter.unusedVariables false
namespace Go.Proofs.Ytblidmkkbcobgaa
open Go.RowKit Go.Lib Go.Proofs

/-- Where a security stands, or would stand. -/
structure PosS (l : List Sec) (id : Int) (i : Nat) : Prop where
  le : i ≤ l.length
  lo : ∀ k (h : k < l.length), k < i → l[k].id < id
  hi : ∀ k (h : k < l.length), i ≤ k → id ≤ l[k].id
def hitS (l : List Sec) (id : Int) (i : Nat) : Bool := decide (∃ h : i < l.length, l[i].id = id)
theorem cmpI_lt {a b : Int} : cmpI a b < 0 ↔ a < b := by unfold cmpI; repeat' split
                                                         all_goals omega
theorem cmpI_eq {a b : Int} : cmpI a b = 0 ↔ a = b := by unfold cmpI; repeat' split
                                                         all_goals omega

end Go.Proofs.Ytblidmkkbcobgaa

/- slices.Insert of one element into a row of the call's own (elements of 7 cells): behind the end, where there is room, into a new row. -/
set_option linter.unusedSimpArgs false
set_option linter.unusedVariables false
namespace Go.Proofs.Ytblidmkkbcobgaa
open Go.RowKit Go.Lib Go.Proofs

theorem infoISec : (Try.prog.info? 55).map (fun i => (i.zero, i.size, i.bytes)) = some (some (.agg #[.int .i64 0, .int .i64 0, .int .i64 0, .int .i64 0, .int .i64 0, .int .i64 0, .bool false]), 7, 56) := by kernel_rfl
theorem undISec : Try.prog.underlying 25 = some (.slice 55) := by kernel_rfl
theorem sizISec : (Try.prog.info? 55).map (·.size) = some 7 := by kernel_rfl

end Go.Proofs.Ytblidmkkbcobgaa


/- register.Add: a right security more. -/
set_option linter.unusedSimpArgs false
set_option linter.unusedVariables false
namespace Go.Proofs.Ytblidmkkbcobgaa
open Go.RowKit Go.Lib Go.Proofs

def insS (r : Reg) (s : Sec) (i : Nat) : Reg := ⟨r.secs.take i ++ s :: r.secs.drop i, r.hs, r.ms⟩

end Go.Proofs.Ytblidmkkbcobgaa

/- The chapter's example of the register. -/
set_option linter.unusedSimpArgs false
set_option linter.unusedVariables false
namespace Go.Proofs.Ytblidmkkbcobgaa
open Go.RowKit Go.Lib Go.Proofs

def bondS : Sec := ⟨1, 100, 0, 360, 5000, 6, false⟩
def exR1 : Reg := ⟨[bondS], [], []⟩
def exM1 : Mv := ⟨0, 0, 1, 1, 0, 1, 1000⟩
def exR2 : Reg := ⟨[bondS], [⟨1, 1, 1000⟩], [⟨1, 0, 1, 1, 0, 1, 1000⟩]⟩
def exM2 : Mv := ⟨0, 1, 2, 1, 1, 2, 400⟩
def exR3 : Reg := ⟨[bondS], [⟨1, 1, 600⟩, ⟨1, 2, 400⟩], [⟨1, 0, 1, 1, 0, 1, 1000⟩, ⟨2, 1, 2, 1, 1, 2, 400⟩]⟩
theorem bond_ok : SecR bondS := ⟨6, 2, by constructor <;> simp [bondS]⟩
theorem secs_ex : SecsOk [bondS] := ⟨fun s hs => by rw [List.mem_singleton] at hs; rw [hs]; exact bond_ok, List.pairwise_singleton _ _, by decide⟩
theorem ok_none : RegOk Reg.none := ⟨⟨fun s hs => by simp [Reg.none] at hs, List.Pairwise.nil, by decide⟩, by decide, rfl⟩
theorem ok_ex1 : RegOk exR1 := ⟨secs_ex, by decide, rfl⟩
theorem ok_ex2 : RegOk exR2 := ⟨secs_ex, by decide, by decide⟩
theorem ok_ex3 : RegOk exR3 := ⟨secs_ex, by decide, by decide⟩
theorem ex_add1 : addE exR1 exM1 = 0 := by unfold addE; rw [checkR_ok ok_ex1]; decide
theorem ex_add2 : addE exR2 exM2 = 0 := by unfold addE; rw [checkR_ok ok_ex2]; decide
theorem ex_r2 : addV exR1 exM1 = exR2 := by unfold addV; rw [if_pos ex_add1]; rfl
theorem ex_r3 : addV exR2 exM2 = exR3 := by unfold addV; rw [if_pos ex_add2]; rfl
theorem ex_h1 : heldR exR3 1 1 = 600 := by unfold heldR; rw [if_pos (checkR_ok ok_ex3)]; decide
theorem ex_h2 : heldR exR3 1 2 = 400 := by unfold heldR; rw [if_pos (checkR_ok ok_ex3)]; decide
theorem ex_o : outR exR3 1 = 1000 := by unfold outR; rw [if_pos (checkR_ok ok_ex3)]; decide

end Go.Proofs.Ytblidmkkbcobgaa
