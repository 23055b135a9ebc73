/- Contracts of calendar's functions that make the text of a day; for every day (the year 100 reads the table of the powers of ten as the program's text lays it). -/
import Derived.Test.YtgnjboebnobjcaaDoorCal
import Derived.Test.YtgnjboebnobjcaaDoorShelf
import Derived.Deep.RegionHeld3
import Derived.Deep.DeepCutAuto
import Derived.IntWalk
namespace Go.Proofs.YtgnjboebnobjcaaDoor
open Go.RowKit Go.Lib Go.Proofs

/-- The two digits of a number from 0 to 99. -/
def twoB (n : Nat) : ByteArray := ⟨#[UInt8.ofNat (48 + n / 10), UInt8.ofNat (48 + n % 10)]⟩
def decB (n : Nat) : ByteArray := ⟨(decDigits n).toArray⟩

theorem dec_one (n : Nat) (h : n < 10) : decDigits n = [UInt8.ofNat (48 + n)] := by rw [decDigits, dif_pos h]
theorem dec_two (n : Nat) (h : 10 ≤ n) (h1 : n < 100) : decDigits n = [UInt8.ofNat (48 + n / 10), UInt8.ofNat (48 + n % 10)] := by
  rw [decDigits, dif_neg (by omega), dec_one _ (by omega)]
  rfl

theorem twoB_small (n : Nat) (h : n < 10) : (⟨#[48]⟩ : ByteArray) ++ decB n = twoB n := by
  have e1 : n / 10 = 0 := by omega
  have e2 : n % 10 = n := by omega
  unfold decB twoB
  rw [dec_one n h, e1, e2]
  rfl
theorem twoB_big (n : Nat) (h : 10 ≤ n) (h1 : n < 100) : decB n = twoB n := by unfold decB twoB; rw [dec_two n h h1]

theorem decB_size (n : Nat) (h : n < 1000) : (decB n).size ≤ 3 := by
  have e : (decB n).size = (decDigits n).length := by unfold decB; simp [ByteArray.size]
  rw [e]
  by_cases h1 : n < 10
  · rw [dec_one n h1]; simp
  · by_cases h2 : n < 100
    · rw [dec_two n (by omega) h2]; simp
    · rw [decDigits, dif_neg (by omega), dec_two _ (by omega) (by omega)]; simp
theorem twoB_size (n : Nat) : (twoB n).size = 2 := rfl

theorem itoa_small (n : Nat) (w : World) (h : n < 100) : Calls Tryd.prog 35 #[.int .i64 (n : Int)] w fun e w' => e = .returned (.string (decB n)) ∧ w = w' :=
  (Tryd.strconv_Itoa_small n h w).mono fun _ _ ⟨h1, h2⟩ => ⟨h1, h2.symm⟩

theorem ctwo_any (n : Nat) (w : World) (h : n < 100) :
    Calls Tryd.prog 36 #[.int .i64 (n : Int)] w fun e w' => e = .returned (.string (twoB n)) ∧ w = w' := by
  have HI := Lib.hid (itoa_small n w h)
  have hsz := decB_size n (by omega)
  by_cases h10 : n < 10
  · have hlt : (n : Int) < 10 := by omega
    have HT := Lib.hid (twoB_small n h10)
    go_enter Tryd.func36, Tryd.ntmps36
    go_wp2_with fail
    refine (HI.out).mono ?_
    rintro e w' ⟨rfl, rfl⟩
    go_wp2_with fail
    go_ret
    exact ⟨by rw [← HT.out]; rfl, rfl⟩
  · have hge : (10 : Int) ≤ n := by omega
    have HT := Lib.hid (twoB_big n (by omega) h)
    go_enter Tryd.func36, Tryd.ntmps36
    go_wp2_with fail
    refine (HI.out).mono ?_
    rintro e w' ⟨rfl, rfl⟩
    go_wp2_with fail
    go_ret
    exact ⟨by rw [← HT.out]; rfl, rfl⟩

/-- The text of a day with the numbers y, m and k. -/
def textB (y m k : Nat) : ByteArray := decB y ++ ⟨#[45]⟩ ++ twoB m ++ ⟨#[45]⟩ ++ twoB k

/-- What Text keeps of the world: the three numbers of the day, in a block of its own. -/
def TInv (w : World) (b : Nat) (y m k : Nat) (W : World) : Prop := Below w.heap.size w W ∧ w.heap.size ≤ b ∧ b < W.heap.size ∧ W.cell? ⟨b, 0, none⟩ = some (.int .i64 (y : Int)) ∧ W.cell? ⟨b, 1, none⟩ = some (.int .i64 (m : Int)) ∧ W.cell? ⟨b, 2, none⟩ = some (.int .i64 (k : Int))

theorem TInv.below {w : World} {b y m k : Nat} {W W' : World} (h : TInv w b y m k W) (hb : Below W.heap.size W W') : TInv w b y m k W' := by
  obtain ⟨h1, h2, h3, h4, h5, h6⟩ := h
  exact ⟨h1.trans (hb.mono h1.size), h2, Nat.lt_of_lt_of_le h3 hb.size, by rw [hb.cell (by exact h3)]; exact h4, by rw [hb.cell (by exact h3)]; exact h5, by rw [hb.cell (by exact h3)]; exact h6⟩

theorem TInv.both {w : World} {b y m k : Nat} {W : World} (h : TInv w b y m k W) : TInv w b y m k W ∧ W.cell? ⟨b, 0, none⟩ = some (.int .i64 (y : Int)) ∧ W.cell? ⟨b, 1, none⟩ = some (.int .i64 (m : Int)) ∧ W.cell? ⟨b, 2, none⟩ = some (.int .i64 (k : Int)) := ⟨h, h.2.2.2.1, h.2.2.2.2.1, h.2.2.2.2.2⟩
theorem TInv.bothDrew {w : World} {b y m k : Nat} {W : World} (h : TInv w b y m k W) : TInv w b y m k W.drew ∧ W.drew.cell? ⟨b, 0, none⟩ = some (.int .i64 (y : Int)) ∧ W.drew.cell? ⟨b, 1, none⟩ = some (.int .i64 (m : Int)) ∧ W.drew.cell? ⟨b, 2, none⟩ = some (.int .i64 (k : Int)) := TInv.both (h.below ((Below.refl _ _).drew))

/-- Itoa at y, in every world that grew out of w. -/
def ItoaAt (w : World) (y : Nat) : Prop := ∀ W, Below w.heap.size w W → Calls Tryd.prog 35 #[.int .i64 (y : Int)] W fun e w' => e = .returned (.string (decB y)) ∧ Below W.heap.size W w'

theorem itoaAt_small (w : World) (y : Nat) (h : y < 100) : ItoaAt w y := fun W _ => (Tryd.strconv_Itoa_small y h W).mono fun e w' ⟨h1, h2⟩ => ⟨h1, by rw [h2]; exact Below.refl _ _⟩

theorem grow_below (W : World) (k : Nat) (os : Array Obj) : Below W.heap.size W (Sort.grow (W.drewN k) os) :=
  ⟨rfl, rfl, rfl, by simp [Sort.grow, World.drewN], fun j hj => Sort.heap_grow_old (W.drewN k) os hj⟩

/-- A variable that has not turned. -/
theorem var_below {P : Program} {w w' : World} {name : String} {cs : Array Value} (h : w.var? P name = some cs) (hb : ∀ g, P.globalNamed name = some g → w'.heap[g]? = w.heap[g]?) : w'.var? P name = some cs := by
  unfold World.var? at h ⊢
  cases hg : P.globalNamed name with
  | none => rw [hg] at h; cases h
  | some g =>
    rw [hg] at h
    simp only [Option.bind_some] at h ⊢
    rw [hb g hg]
    exact h

theorem var_lt {P : Program} {w : World} {name : String} {cs : Array Value} (h : w.var? P name = some cs) {g : Nat} (hg : P.globalNamed name = some g) : g < w.heap.size := by
  unfold World.var? at h
  rw [hg] at h
  simp only [Option.bind_some] at h
  by_cases hlt : g < w.heap.size
  · exact hlt
  · rw [Array.getElem?_eq_none (by omega)] at h; cases h

theorem itoaAt_tab (w : World) (y : Nat) (h : y < 1000) (ht : TabIs Tryd.prog w "internal/strconv.uint64pow10" .u64 pow10Tab) : ItoaAt w y := fun W hb => by
  have ht' : TabIs Tryd.prog W "internal/strconv.uint64pow10" .u64 pow10Tab := var_below ht fun g hg => hb.block g (var_lt ht hg)
  refine (Tryd.strconv_Itoa (y : Int) (by omega) (by omega) W ht').mono fun e w' ⟨h1, k, os, h2⟩ => ⟨?_, by rw [h2]; exact grow_below W k _⟩
  rw [h1]
  have : itoa (y : Int) = decDigits y := by unfold itoa; rw [if_neg (by omega)]; simp
  rw [this]; rfl

/-- Itoa, called from Text. -/
theorem itoa_text {w : World} {b y m k : Nat} {W : World} (hi : ItoaAt w y) (h : TInv w b y m k W) : Calls Tryd.prog 35 #[.int .i64 (y : Int)] W fun e w' => e = .returned (.string (decB y)) ∧ TInv w b y m k w' :=
  (hi W h.1).mono fun _ _ ⟨h1, h2⟩ => ⟨h1, h.below h2⟩

set_option maxHeartbeats 400000 in
theorem cText_any (d y m k : Nat) (w : World) (hd : d ≤ 36000) (hy : d / 360 = y) (hm : d % 360 / 30 + 1 = m) (hk : d % 30 + 1 = k) (hi : ItoaAt w y) :
    Calls Tryd.prog 22 #[.int .i64 (d : Int)] w fun e w' => e = .returned (.string (textB y m k)) ∧ Below w.heap.size w w' := by
  have hm1 : m < 100 := by omega
  have hk1 : k < 100 := by omega
  have HV := Lib.hid (cValid_yes w (dayB_true.2 ⟨by omega, by omega⟩ : dayB (d : Int) = true))
  have hD := dateOf_any (d : Int) w (by omega) (by omega)
  rw [show (d : Int) / 360 = (y : Int) by omega, show (d : Int) % 360 / 30 + 1 = (m : Int) by omega, show (d : Int) % 30 + 1 = (k : Int) by omega] at hD
  have HD := Lib.hid hD
  have HI := Lib.hid hi
  have hsy := decB_size y (by omega)
  have hsm := twoB_size m
  have hsk := twoB_size k
  have a1 : ¬ 9223372036854775807 < (decB y).size + 1 := by omega
  have a2 : ¬ 9223372036854775807 < (decB y).size + 1 + 2 := by omega
  have a3 : ¬ 9223372036854775807 < (decB y).size + 1 + 2 + 1 := by omega
  have a4 : ¬ 9223372036854775807 < (decB y).size + 1 + 2 + 1 + 2 := by omega
  have hC := fun (W : World) => ctwo_any m W hm1
  have hC' := fun (W : World) => ctwo_any k W hk1
  have HC := Lib.hid hC
  have HC' := Lib.hid hC'
  clear hD hy hm hk hi hd hm1 hk1 hC hC'
  go_enter Tryd.func22, Tryd.ntmps22
  go_wp2_with fail
  refine (HV.out).mono ?_
  rintro e w' ⟨rfl, rfl⟩
  go_wp2_with fail
  refine (HD.out).mono ?_
  rintro e w1 ⟨rfl, hb1⟩
  go_wp2_with fail
  have hinv : TInv w w1.heap.size y m k (w1.alloc (.cells #[.int .i64 (y : Int), .int .i64 (m : Int), .int .i64 (k : Int)] 49)) :=
    ⟨hb1.alloc hb1.size _, hb1.size, by simp, by simp, by simp, by simp⟩
  have HINV := Lib.hid hinv
  clear hinv hb1
  go_region_held3 (fun W => TInv w w1.heap.size y m k W ∧ W.cell? ⟨w1.heap.size, 0, none⟩ = some (.int .i64 (y : Int)) ∧ W.cell? ⟨w1.heap.size, 1, none⟩ = some (.int .i64 (m : Int)) ∧ W.cell? ⟨w1.heap.size, 2, none⟩ = some (.int .i64 (k : Int))) (first | exact TInv.both HINV.out | exact TInv.bothDrew HINV.out | exact TInv.both (by assumption))
    (first | (go_at_call 36; (first | (with_reducible refine (HC.out _).mono ?_) | (with_reducible refine (HC'.out _).mono ?_)); rintro e w' ⟨rfl, rfl⟩) | (go_at_call 35; refine (itoa_text (w := w) (b := w1.heap.size) (m := m) (k := k) HI.out (And.left (by assumption))).mono ?_; rintro e w' ⟨rfl, hinv'⟩))
  go_wp2_with fail
  go_ret
  rename_i hheld
  exact ⟨rfl, hheld.1.1⟩

theorem byte_of (n : Nat) (h : n < 10) : (48 + (n : Int)) % 256 = 48 + n := by omega

set_option maxHeartbeats 400000 in
theorem rctwo_any (n : Nat) (w : World) (h : n < 100) :
    Calls Tryd.prog 37 #[.int .i64 (n : Int)] w fun e w' => e = .returned (.string (twoB n)) ∧ Below w.heap.size w w' := by
  obtain ⟨p, hp⟩ : ∃ p, p = n / 10 := ⟨_, rfl⟩
  obtain ⟨q, hq⟩ : ∃ q, q = n % 10 := ⟨_, rfl⟩
  have hp1 : (p : Int) < 10 := by omega
  have hq1 : (q : Int) < 10 := by omega
  have e1 : (n : Int) / 10 = p := by omega
  have e2 : (n : Int) % 10 = q := by omega
  have w1 : IntKind.u8.wrap (48 + (p : Int)) = 48 + p := IntWalk.u8_in _ (by omega)
  have w2 : IntKind.u8.wrap (48 + (q : Int)) = 48 + q := IntWalk.u8_in _ (by omega)
  have hs : strOfNums [48 + (p : Int), 48 + (q : Int)] = twoB n := by
    unfold strOfNums twoB
    rw [← hp, ← hq]
    rfl
  have hcv := run_convert_bytes_arg (P := Tryd.prog) (w.alloc (.cells #[.int .u8 (48 + p), .int .u8 (48 + q)] 5)) 54 5 Tryd.underlying54 Tryd.underlying5 w.heap.size 0 2 2 [48 + (p : Int), 48 + (q : Int)] rfl (fun i hi => by
    have : i = 0 ∨ i = 1 := by omega
    rcases this with rfl | rfl <;> simp) 9 Tryd.underlying9
  rw [hs] at hcv
  clear hp hq hs
  go_enter Tryd.func37, Tryd.ntmps37
  go_wp2
  go_ret
  exact ⟨rfl, by first | exact (Below.refl _ _).alloc (Nat.le_refl _) _ | exact ((Below.refl _ _).alloc (Nat.le_refl _) _).drew | exact below_drewN ((Below.refl _ _).alloc (Nat.le_refl _) _) _⟩

end Go.Proofs.YtgnjboebnobjcaaDoor
