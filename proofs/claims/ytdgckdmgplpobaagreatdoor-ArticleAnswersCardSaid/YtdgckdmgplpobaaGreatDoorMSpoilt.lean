/- The contract of treasurymake's Spoilt: some text, not much longer; what a law keeps of the world (CInv). -/
import Derived.Test.YtdgckdmgplpobaaGreatDoorMG1
import Derived.Test.YtdgckdmgplpobaaGreatDoorMG3
import Derived.IntWalk
import Derived.Deep.RegionHeld3
import Derived.Deep.RegionWith
set_option linter.unusedSimpArgs false
set_option linter.unusedVariables false
namespace Go.Proofs.YtdgckdmgplpobaaGreatDoor
open Go.RowKit Go.Lib Go.Proofs

structure CInv (w : World) (tb : Nat) (W : World) : Prop where
  tape : TapeAt W tb
  lay : Lay W
  old : Below w.heap.size w W
  ht : w.heap.size ≤ tb
  top : ∀ g ∈ layBlocks, g < w.heap.size

theorem CInv.below {w : World} {tb : Nat} {W W' : World} (h : CInv w tb W) (hb : Below W.heap.size W W') : CInv w tb W' :=
  ⟨h.tape.below hb, h.lay.below hb (Nat.le_refl _), h.old.trans (hb.mono h.old.size), h.ht, h.top⟩
theorem CInv.grown {w : World} {tb : Nat} {W W' : World} (h : CInv w tb W) (ht : TapeAt W' tb) (hg : W.grownBy W' (some tb)) : CInv w tb W' :=
  ⟨ht, h.lay.keep fun g hgl => hg.block g (by have := h.lay.lt g hgl; omega) (fun e => by have := h.top g hgl; have := h.ht; simp at e; omega), h.old.grown hg h.old.size (fun r hr => by simp at hr; have := h.ht; omega), h.ht, h.top⟩

theorem grown_trans {a b c : World} {t : Option Nat} (h : a.grownBy b t) (k : b.grownBy c t) : a.grownBy c t :=
  ⟨k.os.trans h.os, k.tape.trans h.tape, k.output.trans h.output, Nat.le_trans h.size k.size, fun i hi hne => (k.block i (Nat.lt_of_lt_of_le hi h.size) hne).trans (h.block i hi hne)⟩
theorem grown_drew {a b : World} {t : Option Nat} (h : a.drew.grownBy b t) : a.grownBy b t := ⟨h.os, h.tape, h.output, h.size, h.block⟩
def NP (w : World) (tb : Nat) (n : Int) (W : World) (e : Ending) (w' : World) : Prop := ∃ r : Int, e = .returned (.int .i64 r) ∧ 0 ≤ r ∧ r < n ∧ CInv w tb w' ∧ W.grownBy w' (some tb)

theorem N_c {w : World} {tb : Nat} {W : World} (h : CInv w tb W) (n : Int) (hn : 1 ≤ n) (hn1 : n ≤ 4611686018427387904) : Calls Tryz.prog 22 #[.pointer (some ⟨tb, 0, none⟩), .int .i64 n] W (NP w tb n W) :=
  (N_any tb n W h.tape hn hn1).mono fun _ _ ⟨r, h1, h2, h3, h4, h5⟩ => ⟨r, h1, h2, h3, h.grown h4 h5, h5⟩

def NS (w : World) (tb : Nat) (x k : Nat) (W : World) (e : Ending) (w' : World) : Prop := ∃ (r : Int) (j : Nat), e = .returned (.int .i64 r) ∧ 0 ≤ r ∧ r < 3 ∧ IntKind.i64.wrap ((k : Int) + r) = (k : Int) + r ∧ min (x : Int) ((k : Int) + r) = (j : Int) ∧ (0 : Int) ≤ (j : Int) ∧ (j : Int) ≤ (x : Int) ∧ CInv w tb w' ∧ W.grownBy w' (some tb)

theorem N_s {w : World} {tb : Nat} {W : World} (h : CInv w tb W) (x k : Nat) (hx : x ≤ 1000) (hk : k ≤ x) : Calls Tryz.prog 22 #[.pointer (some ⟨tb, 0, none⟩), .int .i64 3] W (NS w tb x k W) :=
  (N_c h 3 (by omega) (by omega)).mono fun _ _ ⟨r, h1, h2, h3, h4, h5⟩ => ⟨r, (min (x : Int) ((k : Int) + r)).toNat, h1, h2, h3, IntWalk.i64_in _ (by omega), by omega, by omega, by omega, h4, h5⟩

def SpoiltPost (w : World) (tb : Nat) (m : Nat) (W : World) (e : Ending) (w' : World) : Prop := ∃ s : ByteArray, e = .returned (.string s) ∧ s.size ≤ 2 * m + 10 ∧ CInv w tb w' ∧ W.grownBy w' (some tb)

set_option maxRecDepth 100000 in
set_option maxHeartbeats 2000000 in
theorem Spoilt_any {w : World} {tb : Nat} {W : World} (h : CInv w tb W) (x : ByteArray) (hx : x.size ≤ 1000) (b n cap : Nat) (hb : tb < b) (hbW : b < W.heap.size) (hn : 1 ≤ n) (hn1 : n ≤ 1000) (hc : ∀ i, i < n → ∃ t : ByteArray, t.size ≤ 10 ∧ W.cell? ⟨b, i, none⟩ = some (.string t)) :
    Calls Tryz.prog 16 #[.pointer (some ⟨tb, 0, none⟩), .string x, .slice (some ⟨b, 0, none⟩) n cap] W (SpoiltPost w tb x.size W) := by
  have HC := Lib.hid hc
  have HN1 := Lib.hid (N_c h ((x.size : Int) + 1) (by omega) (by omega))
  clear hc h
  go_enter Tryz.func16, Tryz.ntmps16
  go_wp2_with fail
  refine (HN1.out).mono ?_
  rintro e W1 ⟨k', rfl, k0, k1, hI1, hg1⟩
  obtain ⟨k, rfl⟩ : ∃ k : Nat, k' = k := ⟨k'.toNat, by omega⟩
  have hk : k ≤ x.size := by omega
  have HN2 := Lib.hid (N_c hI1 (n : Int) (by omega) (by omega))
  have hb1 : b < W1.heap.size := Nat.lt_of_lt_of_le hbW hg1.size
  have HG1 := Lib.hid hg1
  clear hI1 hg1 k0 k1 HN1
  go_wp2_with fail
  refine (HN2.out).mono ?_
  rintro e W2 ⟨i', rfl, i0, i1, hI2, hg2⟩
  obtain ⟨i, rfl⟩ : ∃ i : Nat, i' = i := ⟨i'.toNat, by omega⟩
  obtain ⟨c, hcs, hcc⟩ := HC.out i (by omega)
  have hcell : W2.cell? ⟨b, i, none⟩ = some (.string c) := by
    rw [World.cell?_of_block (w := W1) (hg2.block b hb1 (by simp; omega)), World.cell?_of_block (w := W) (HG1.out.block b hbW (by simp; omega))]
    exact hcc
  have HG2 := Lib.hid hg2
  have HI2 := Lib.hid hI2
  clear hI2 hg2 hcc HN2
  go_wp2_with fail
  have HN3 := Lib.hid (N_s (HI2.out.below ((Below.refl _ _).drew)) x.size k hx hk)
  have s1 : (x.extract 0 k).size = k := by rw [ByteArray.size_extract]; omega
  have s2 : ∀ j, (x.extract j x.size).size ≤ 1000 := fun j => by rw [ByteArray.size_extract]; omega
  have a1 : ¬ 9223372036854775807 < k + c.size := by omega
  have a2 : ∀ j, ¬ 9223372036854775807 < k + c.size + (x.extract j x.size).size := fun j => by have := s2 j; omega
  have hk0 : (0 : Int) ≤ (k : Int) := by omega
  have hk1 : (k : Int) ≤ (x.size : Int) := by omega
  have S2 := Lib.hid s2
  clear s2
  go_region_with (first | (go_at_call 22; refine (HN3.out).mono ?_; rintro e W3 ⟨r, j, rfl, r0, r1, hwr, hmin, hj0, hj1, hI3, hg3⟩))
  have S3 := S2.out j
  go_wp2_with fail
  go_ret
  refine ⟨_, rfl, ?_, hI3, grown_trans HG1.out (grown_trans HG2.out (grown_drew hg3))⟩
  rw [ByteArray.size_append, ByteArray.size_append, s1]
  have : (x.extract j x.size).size ≤ x.size := by rw [ByteArray.size_extract]; omega
  omega

end Go.Proofs.YtdgckdmgplpobaaGreatDoor
