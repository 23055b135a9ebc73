/- The walk of CalendarAnswers: all functions of package calendar return what the chapter's reference returns; for every tape, all numbers, and texts of up to 100 bytes (longer ones are passed over). -/
import Derived.Test.YtgnjboebnobjcaaDoorRCParse
import Derived.Test.YtgnjboebnobjcaaDoorTap
import Derived.Test.YtgnjboebnobjcaaDoorCBack
import Derived.Deep.RegionHeld3
import Derived.Deep.RegionWith
namespace Go.Proofs.YtgnjboebnobjcaaDoor
open Go.RowKit Go.Lib Go.Proofs

theorem dayText_short (d : Nat) (h : d ≤ 36000) : (dayText d).size ≤ 1000 := by
  have e : (dayText d).size = (dayText d).data.toList.length := size_eq _
  have e2 := decB_size (d / 360) (by omega)
  have e3 : (decB (d / 360)).size = (decDigits (d / 360)).length := by unfold decB; simp [ByteArray.size]
  rw [e, dayText_list]
  simp [twoL]
  omega

/-- What the law keeps of the world: the tape at tb, the listed variables, and all that was there. -/
structure CInv (w : World) (tb : Nat) (W : World) : Prop where
  tape : TapeAt W tb
  lay : Lay W
  old : Below w.heap.size w W
  ht : w.heap.size ≤ tb
  top : ∀ g ∈ layBlocks, g < w.heap.size

theorem CInv.below {w : World} {tb : Nat} {W W' : World} (h : CInv w tb W) (hb : Below W.heap.size W W') : CInv w tb W' :=
  ⟨h.tape.below hb, h.lay.below hb (Nat.le_refl _), h.old.trans (hb.mono h.old.size), h.ht, h.top⟩
theorem CInv.grown {w : World} {tb : Nat} {W W' : World} (h : CInv w tb W) (ht : TapeAt W' tb) (hg : W.grownBy W' (some tb)) : CInv w tb W' :=
  ⟨ht, h.lay.keep fun g hgl => hg.block g (by have := h.lay.lt g hgl; omega) (fun e => by have := h.top g hgl; have := h.ht; simp at e; omega), h.old.grown hg h.old.size (fun r hr => by simp at hr; have := h.ht; omega), h.ht, h.top⟩

theorem grown_trans {a b c : World} {t : Option Nat} (h : a.grownBy b t) (k : b.grownBy c t) : a.grownBy c t :=
  ⟨k.os.trans h.os, k.tape.trans h.tape, k.output.trans h.output, Nat.le_trans h.size k.size, fun i hi hne => (k.block i (Nat.lt_of_lt_of_le hi h.size) hne).trans (h.block i hi hne)⟩
theorem grown_drew {a b : World} {t : Option Nat} (h : a.drew.grownBy b t) : a.grownBy b t := ⟨h.os, h.tape, h.output, h.size, h.block⟩
theorem grown_below {a b : World} {t : Option Nat} (h : Below a.heap.size a b) : a.grownBy b t := ⟨h.os, h.tape, h.output, h.size, fun k hk _ => h.block k hk⟩

/-- What N hands back, within the law. -/
def NP (w : World) (tb : Nat) (n : Int) (W : World) (e : Ending) (w' : World) : Prop := ∃ r : Int, e = .returned (.int .i64 r) ∧ 0 ≤ r ∧ r < n ∧ CInv w tb w' ∧ W.grownBy w' (some tb)

theorem N_c {w : World} {tb : Nat} {W : World} (h : CInv w tb W) (n : Int) (hn : 1 ≤ n) (hn1 : n ≤ 4611686018427387904) : Calls Tryd.prog 9 #[.pointer (some ⟨tb, 0, none⟩), .int .i64 n] W (NP w tb n W) :=
  (N_any tb n W h.tape hn hn1).mono fun _ _ ⟨r, h1, h2, h3, h4, h5⟩ => ⟨r, h1, h2, h3, h.grown h4 h5, h5⟩

/-- What N hands back within Spoilt: where the rest of the text begins. -/
def NS (w : World) (tb : Nat) (x k : Nat) (W : World) (e : Ending) (w' : World) : Prop := ∃ (r : Int) (j : Nat), e = .returned (.int .i64 r) ∧ 0 ≤ r ∧ r < 3 ∧ IntKind.i64.wrap ((k : Int) + r) = (k : Int) + r ∧ min (x : Int) ((k : Int) + r) = (j : Int) ∧ (0 : Int) ≤ (j : Int) ∧ (j : Int) ≤ (x : Int) ∧ CInv w tb w' ∧ W.grownBy w' (some tb)

theorem N_s {w : World} {tb : Nat} {W : World} (h : CInv w tb W) (x k : Nat) (hx : x ≤ 1000) (hk : k ≤ x) : Calls Tryd.prog 9 #[.pointer (some ⟨tb, 0, none⟩), .int .i64 3] W (NS w tb x k W) :=
  (N_c h 3 (by omega) (by omega)).mono fun _ _ ⟨r, h1, h2, h3, h4, h5⟩ => ⟨r, (min (x : Int) ((k : Int) + r)).toNat, h1, h2, h3, IntWalk.i64_in _ (by omega), by omega, by omega, by omega, h4, h5⟩

/-- What Spoilt hands back: some text, not much longer. -/
def SpoiltPost (w : World) (tb : Nat) (m : Nat) (W : World) (e : Ending) (w' : World) : Prop := ∃ s : ByteArray, e = .returned (.string s) ∧ s.size ≤ 2 * m + 10 ∧ CInv w tb w' ∧ W.grownBy w' (some tb)

set_option maxRecDepth 100000 in
set_option maxHeartbeats 2000000 in
theorem Spoilt_any {w : World} {tb : Nat} {W : World} (h : CInv w tb W) (x : ByteArray) (hx : x.size ≤ 1000) (b n cap : Nat) (hb : tb < b) (hbW : b < W.heap.size) (hn : 1 ≤ n) (hn1 : n ≤ 1000) (hc : ∀ i, i < n → ∃ t : ByteArray, t.size ≤ 10 ∧ W.cell? ⟨b, i, none⟩ = some (.string t)) :
    Calls Tryd.prog 29 #[.pointer (some ⟨tb, 0, none⟩), .string x, .slice (some ⟨b, 0, none⟩) n cap] W (SpoiltPost w tb x.size W) := by
  have HC := Lib.hid hc
  have HN1 := Lib.hid (N_c h ((x.size : Int) + 1) (by omega) (by omega))
  clear hc h
  go_enter Tryd.func29, Tryd.ntmps29
  go_wp2_with fail
  refine (HN1.out).mono ?_
  rintro e W1 ⟨k', rfl, k0, k1, hI1, hg1⟩
  obtain ⟨k, rfl⟩ : ∃ k : Nat, k' = k := ⟨k'.toNat, by omega⟩
  have hk : k ≤ x.size := by omega
  have HN2 := Lib.hid (N_c hI1 (n : Int) (by omega) (by omega))
  have hb1 : b < W1.heap.size := Nat.lt_of_lt_of_le hbW hg1.size
  have HG1 := Lib.hid hg1
  clear hI1 hg1 k0 k1 HN1
  go_wp2_with fail
  refine (HN2.out).mono ?_
  rintro e W2 ⟨i', rfl, i0, i1, hI2, hg2⟩
  obtain ⟨i, rfl⟩ : ∃ i : Nat, i' = i := ⟨i'.toNat, by omega⟩
  obtain ⟨c, hcs, hcc⟩ := HC.out i (by omega)
  have hcell : W2.cell? ⟨b, i, none⟩ = some (.string c) := by
    rw [World.cell?_of_block (w := W1) (hg2.block b hb1 (by simp; omega)), World.cell?_of_block (w := W) (HG1.out.block b hbW (by simp; omega))]
    exact hcc
  have HG2 := Lib.hid hg2
  have HI2 := Lib.hid hI2
  clear hI2 hg2 hcc HN2
  go_wp2_with fail
  have HN3 := Lib.hid (N_s (HI2.out.below ((Below.refl _ _).drew)) x.size k hx hk)
  have s1 : (x.extract 0 k).size = k := by rw [ByteArray.size_extract]; omega
  have s2 : ∀ j, (x.extract j x.size).size ≤ 1000 := fun j => by rw [ByteArray.size_extract]; omega
  have a1 : ¬ 9223372036854775807 < k + c.size := by omega
  have a2 : ∀ j, ¬ 9223372036854775807 < k + c.size + (x.extract j x.size).size := fun j => by have := s2 j; omega
  have hk0 : (0 : Int) ≤ (k : Int) := by omega
  have hk1 : (k : Int) ≤ (x.size : Int) := by omega
  have S2 := Lib.hid s2
  clear s2
  go_region_with (first | (go_at_call 9; refine (HN3.out).mono ?_; rintro e W3 ⟨r, j, rfl, r0, r1, hwr, hmin, hj0, hj1, hI3, hg3⟩))
  have S3 := S2.out j
  go_wp2_with fail
  go_ret
  refine ⟨_, rfl, ?_, hI3, grown_trans HG1.out (grown_trans HG2.out (grown_drew hg3))⟩
  rw [ByteArray.size_append, ByteArray.size_append, s1]
  have : (x.extract j x.size).size ≤ x.size := by rw [ByteArray.size_extract]; omega
  omega

theorem date_pair (x : Int) : ∃ y m d : Int, (∀ W, Calls Tryd.prog 10 #[.int .i64 x] W fun e w' => e = .returned (.tuple #[.int .i64 y, .int .i64 m, .int .i64 d]) ∧ Below W.heap.size W w') ∧ (∀ W, Calls Tryd.prog 11 #[.int .i64 x] W fun e w' => e = .returned (.tuple #[.int .i64 y, .int .i64 m, .int .i64 d]) ∧ W = w') := by
  cases h : dayB x with
  | true => exact ⟨_, _, _, fun W => cDate_yes x W h, fun W => rcDate_yes x W h⟩
  | false => exact ⟨_, _, _, fun W => (cDate_no x W h).mono fun e w' ⟨h1, h2⟩ => ⟨h1, by rw [← h2]; exact Below.refl _ _⟩, fun W => rcDate_no x W h⟩
theorem next_pair (x : Int) : ∃ p q : Int, (∀ W, Calls Tryd.prog 12 #[.int .i64 x] W fun e w' => e = .returned (.tuple #[.int .i64 p, .int .i64 q]) ∧ W = w') ∧ (∀ W, Calls Tryd.prog 13 #[.int .i64 x] W fun e w' => e = .returned (.tuple #[.int .i64 p, .int .i64 q]) ∧ W = w') := ⟨_, _, fun W => cNext_any x W, fun W => rcNext_any x W⟩
theorem months_pair (x z : Int) : ∃ p q : Int, (∀ W, Calls Tryd.prog 24 #[.int .i64 x, .int .i64 z] W fun e w' => e = .returned (.tuple #[.int .i64 p, .int .i64 q]) ∧ W = w') ∧ (∀ W, Calls Tryd.prog 25 #[.int .i64 x, .int .i64 z] W fun e w' => e = .returned (.tuple #[.int .i64 p, .int .i64 q]) ∧ W = w') := ⟨_, _, fun W => cMonths_any x z W, fun W => rcMonths_any x z W⟩
theorem count_pair (x z : Int) : ∃ p q : Int, (∀ W, Calls Tryd.prog 26 #[.int .i64 x, .int .i64 z] W fun e w' => e = .returned (.tuple #[.int .i64 p, .int .i64 q]) ∧ W = w') ∧ (∀ W, Calls Tryd.prog 27 #[.int .i64 x, .int .i64 z] W fun e w' => e = .returned (.tuple #[.int .i64 p, .int .i64 q]) ∧ W = w') := ⟨_, _, fun W => cCount_any x z W, fun W => rcCount_any x z W⟩
theorem day_pair (x y z : Int) : ∃ p q : Int, (∀ W, Calls Tryd.prog 30 #[.int .i64 x, .int .i64 y, .int .i64 z] W fun e w' => e = .returned (.tuple #[.int .i64 p, .int .i64 q]) ∧ W = w') ∧ (∀ W, Calls Tryd.prog 31 #[.int .i64 x, .int .i64 y, .int .i64 z] W fun e w' => e = .returned (.tuple #[.int .i64 p, .int .i64 q]) ∧ W = w') := ⟨_, _, fun W => cDay_any x y z W, fun W => rcDay_any x y z W⟩
theorem valid_pair (x : Int) : ∃ b : Bool, (∀ W, Calls Tryd.prog 14 #[.int .i64 x] W fun e w' => e = .returned (.bool b) ∧ W = w') ∧ (∀ W, Calls Tryd.prog 15 #[.int .i64 x] W fun e w' => e = .returned (.bool b) ∧ W = w') := ⟨_, fun W => cValid_any x W, fun W => rcValid_any x W⟩
theorem business_pair (x : Int) : ∃ b : Bool, (∀ W, Calls Tryd.prog 20 #[.int .i64 x] W fun e w' => e = .returned (.bool b) ∧ W = w') ∧ (∀ W, Calls Tryd.prog 21 #[.int .i64 x] W fun e w' => e = .returned (.bool b) ∧ W = w') := ⟨_, fun W => cBusiness_any x W, fun W => rcBusiness_any x W⟩
theorem year_pair (x : Int) : ∃ p : Int, (∀ W, Calls Tryd.prog 16 #[.int .i64 x] W fun e w' => e = .returned (.int .i64 p) ∧ W = w') ∧ (∀ W, Calls Tryd.prog 17 #[.int .i64 x] W fun e w' => e = .returned (.int .i64 p) ∧ W = w') := by
  cases h : dayB x with
  | true => exact ⟨_, fun W => cYear_yes x W h, fun W => rcYear_yes x W h⟩
  | false => exact ⟨_, fun W => cYear_no x W h, fun W => rcYear_no x W h⟩
theorem month_pair (x : Int) : ∃ p : Int, (∀ W, Calls Tryd.prog 18 #[.int .i64 x] W fun e w' => e = .returned (.int .i64 p) ∧ W = w') ∧ (∀ W, Calls Tryd.prog 19 #[.int .i64 x] W fun e w' => e = .returned (.int .i64 p) ∧ W = w') := by
  cases h : dayB x with
  | true => exact ⟨_, fun W => cMonth_yes x W h, fun W => rcMonth_yes x W h⟩
  | false => exact ⟨_, fun W => cMonth_no x W h, fun W => rcMonth_no x W h⟩
theorem text_pair (x : Int) : ∃ s : ByteArray, s.size ≤ 1000 ∧ (∀ W, Lay W → Calls Tryd.prog 22 #[.int .i64 x] W fun e w' => e = .returned (.string s) ∧ Below W.heap.size W w') ∧ (∀ W, Lay W → Calls Tryd.prog 23 #[.int .i64 x] W fun e w' => e = .returned (.string s) ∧ Below W.heap.size W w') := by
  cases h : dayB x with
  | true =>
    obtain ⟨h0, h1⟩ := dayB_true.1 h
    obtain ⟨d, rfl⟩ : ∃ d : Nat, x = d := ⟨x.toNat, by omega⟩
    exact ⟨dayText d, dayText_short d (by omega), fun W hW => cText_day d W (by omega) (hW.itoa d (by omega)), fun W hW => rcText_day d W (by omega) (hW.itoa d (by omega))⟩
  | false => exact ⟨⟨#[]⟩, by decide, fun W _ => (cText_no x W h).mono fun e w' ⟨h1, h2⟩ => ⟨h1, by rw [← h2]; exact Below.refl _ _⟩, fun W _ => (rcText_no x W h).mono fun e w' ⟨h1, h2⟩ => ⟨h1, by rw [← h2]; exact Below.refl _ _⟩⟩
theorem parse_pair (s : ByteArray) (hs : s.size ≤ 1000000) : ∃ p q : Int, ((0 ≤ p ∧ p ≤ 36000 ∧ q = 0) ∨ (p = 0 ∧ q = 4)) ∧ (∀ W, Lay W → Calls Tryd.prog 28 #[.string s] W fun e w' => e = .returned (.tuple #[.int .i64 p, .int .i64 q]) ∧ Below W.heap.size W w') ∧ (∀ W, Lay W → Calls Tryd.prog 32 #[.string s] W fun e w' => e = .returned (.tuple #[.int .i64 p, .int .i64 q]) ∧ Below W.heap.size W w') := by
  obtain ⟨p, q, h⟩ := parseIs_some s
  refine ⟨p, q, ?_, fun W hW => cParse_any s p q h W hW hs, fun W hW => rcParse_any s p q h W hW hs⟩
  rcases h with ⟨d, h1, _, rfl, rfl⟩ | ⟨_, rfl, rfl⟩
  · exact Or.inl ⟨by omega, by omega, rfl⟩
  · exact Or.inr ⟨rfl, rfl⟩

end Go.Proofs.YtgnjboebnobjcaaDoor
