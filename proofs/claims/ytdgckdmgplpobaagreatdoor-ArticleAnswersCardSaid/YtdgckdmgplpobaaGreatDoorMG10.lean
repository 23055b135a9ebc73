/- Texts of one claim, merged: Law, ArgArt. -/
import Derived.Test.YtdgckdmgplpobaaGreatDoorRows
import Derived.WalkKit
import Derived.ProofKit
import Derived.OpenShut
import Derived.Test.YtdgckdmgplpobaaGreatDoorMG2
import Derived.ChangeMaps5
import Derived.ChangeSame
/- A law returns true and turns nothing that was there: what a statement's row asks of the end of the call; no condition. -/
set_option linter.unusedSimpArgs false
set_option linter.unusedVariables false
namespace Go.Proofs.YtdgckdmgplpobaaGreatDoor
open Go.ChangeShapes Go.WideShapes Go.ChangeAt Go.RowKit

theorem Tryz.own : ownKnob Tryz.prog.godebug = none := by kernel_rfl
theorem Tryz.laidOut : laidOutB Tryz.prog = true := by kernel_rfl

end Go.Proofs.YtdgckdmgplpobaaGreatDoor

/- An argument of type api.Article of a statement is an article by value, its numbers fit the machine; no condition. -/
namespace Go.Proofs.YtdgckdmgplpobaaGreatDoor
open Go.ChangeShapes Go.WideShapes Go.ChangeAt Go.RowKit Go.ChangeMaps

theorem Tryz.cellsArticle : Tryz.prog.cellsOf 24 = 11 := by kernel_rfl
theorem Tryz.cellsAI : Tryz.prog.cellsOf 3 = 1 := by kernel_rfl
theorem Tryz.cellsAS : Tryz.prog.cellsOf 9 = 1 := by kernel_rfl

theorem aa_int {H : Type} {enc : TypeId × Value → H} {W : World} {n : Nat} {sp : Nat → Bool} {hd : Bool} {cs : List Value} {o : Nat} {x : DataW H × List MemPlace} {c : Value} (hc : (cs.drop o).take 1 = [c])
    (h : DataW.trod enc Tryz.prog W 0 sp hd n 3 ((cs.drop o).take (Tryz.prog.cellsOf 3)) = some x) : ∃ k : Int, c = .int .i64 k ∧ -9223372036854775808 ≤ k ∧ k ≤ 9223372036854775807 := by
  rw [Tryz.cellsAI, hc] at h
  obtain ⟨k, e, _, hw⟩ := DataW.trod_int Tryz.underlying3 h
  injection e with e
  simp only [Lit.wf, Bool.and_eq_true, decide_eq_true_eq] at hw
  exact ⟨k, e, Int.le_trans (by decide) hw.1, Int.le_trans hw.2 (by decide)⟩
theorem aa_string {H : Type} {enc : TypeId × Value → H} {W : World} {n : Nat} {sp : Nat → Bool} {hd : Bool} {cs : List Value} {o : Nat} {x : DataW H × List MemPlace} {c : Value} (hc : (cs.drop o).take 1 = [c])
    (h : DataW.trod enc Tryz.prog W 0 sp hd n 9 ((cs.drop o).take (Tryz.prog.cellsOf 9)) = some x) : ∃ s : ByteArray, c = .string s := by
  rw [Tryz.cellsAS, hc] at h
  obtain ⟨s, e, _, _⟩ := DataW.trod_string Tryz.underlying9 h
  injection e with e
  exact ⟨s, e⟩

set_option maxRecDepth 100000 in
theorem article_arg {H : Type} {enc : TypeId × Value → H} {W : World} {base : Nat} {v : Value} {d : DataW H} {p0 : List MemPlace} (hv : Value.okWide Tryz.prog W .any base 24 v) (h0 : DataW.Trod enc Tryz.prog W 0 (fun _ => true) true 24 v d p0) :
    ∃ a : Art, v = .agg a.cells ∧ ArtBd a := by
  obtain ⟨cs, rfl, hsz⟩ := okWide_struct Tryz.underlying24 hv
  rw [Tryz.cellsArticle] at hsz
  obtain ⟨l⟩ := cs
  match l, hsz with
  | [c0, c1, c2, c3, c4, c5, c6, c7, c8, c9, c10], _ =>
  obtain ⟨fuel, hf⟩ := h0
  obtain ⟨xs, n, _, _, _, hlen, hfs⟩ := DataW.trod_struct Tryz.underlying24 hf
  match xs, hlen with
  | [y0, y1, y2, y3, y4, y5, y6, y7, y8, y9, y10], _ =>
  simp only [Value.cells] at hfs
  obtain ⟨k0, rfl, _, _⟩ := aa_int (c := c0) rfl (hfs 0 _ rfl)
  obtain ⟨k1, rfl⟩ := aa_string (c := c1) rfl (hfs 1 _ rfl)
  obtain ⟨k2, rfl⟩ := aa_string (c := c2) rfl (hfs 2 _ rfl)
  obtain ⟨k3, rfl⟩ := aa_string (c := c3) rfl (hfs 3 _ rfl)
  obtain ⟨k4, rfl, a4, b4⟩ := aa_int (c := c4) rfl (hfs 4 _ rfl)
  obtain ⟨k5, rfl, a5, b5⟩ := aa_int (c := c5) rfl (hfs 5 _ rfl)
  obtain ⟨k6, rfl, a6, b6⟩ := aa_int (c := c6) rfl (hfs 6 _ rfl)
  obtain ⟨k7, rfl, a7, b7⟩ := aa_int (c := c7) rfl (hfs 7 _ rfl)
  obtain ⟨k8, rfl, _, _⟩ := aa_int (c := c8) rfl (hfs 8 _ rfl)
  obtain ⟨k9, rfl, a9, b9⟩ := aa_int (c := c9) rfl (hfs 9 _ rfl)
  obtain ⟨k10, rfl, _, _⟩ := aa_int (c := c10) rfl (hfs 10 _ rfl)
  exact ⟨⟨k0, k1, k2, k3, k4, k5, k6, k7, k8, k9, k10⟩, rfl, ⟨a4, b4, a5, b5, a6, b6, a7, b7, a9, b9⟩⟩

end Go.Proofs.YtdgckdmgplpobaaGreatDoor
