/- What Go's library serves to every layer: the digits of a number, strconv.Itoa and strconv.Atoi by their contracts, and the variables that they read as the program's text lays them; no condition beyond each contract's own. -/
import Derived.Test.YtebgfbcojhmdlaaDoorBase
import Derived.Test.YtebgfbcojhmdlaaDoorShelf
import Derived.Test.YtebgfbcojhmdlaaDoorShelfA
import Derived.Lib.Split
import Derived.Lib.AtoiAll
import Derived.Lib.IndexBytes
namespace Go.Proofs.YtebgfbcojhmdlaaDoor
open Go.RowKit Go.Lib Go.Proofs

def decB (n : Nat) : ByteArray := ⟨(decDigits n).toArray⟩

theorem dec_one (n : Nat) (h : n < 10) : decDigits n = [UInt8.ofNat (48 + n)] := by rw [decDigits, dif_pos h]
theorem dec_two (n : Nat) (h : 10 ≤ n) (h1 : n < 100) : decDigits n = [UInt8.ofNat (48 + n / 10), UInt8.ofNat (48 + n % 10)] := by
  rw [decDigits, dif_neg (by omega), dec_one _ (by omega)]
  rfl

theorem decB_size (n : Nat) (h : n < 1000) : (decB n).size ≤ 3 := by
  have e : (decB n).size = (decDigits n).length := by unfold decB; simp [ByteArray.size]
  rw [e]
  by_cases h1 : n < 10
  · rw [dec_one n h1]; simp
  · by_cases h2 : n < 100
    · rw [dec_two n (by omega) h2]; simp
    · rw [decDigits, dif_neg (by omega), dec_two _ (by omega) (by omega)]; simp
theorem itoa_small (n : Nat) (w : World) (h : n < 100) : Calls Tryd.prog 46 #[.int .i64 (n : Int)] w fun e w' => e = .returned (.string (decB n)) ∧ w = w' :=
  (Tryd.strconv_Itoa_small n h w).mono fun _ _ ⟨h1, h2⟩ => ⟨h1, h2.symm⟩

/-- Itoa at y, in every world that grew out of w. -/
def ItoaAt (w : World) (y : Nat) : Prop := ∀ W, Below w.heap.size w W → Calls Tryd.prog 46 #[.int .i64 (y : Int)] W fun e w' => e = .returned (.string (decB y)) ∧ Below W.heap.size W w'

theorem itoaAt_small (w : World) (y : Nat) (h : y < 100) : ItoaAt w y := fun W _ => (Tryd.strconv_Itoa_small y h W).mono fun e w' ⟨h1, h2⟩ => ⟨h1, by rw [h2]; exact Below.refl _ _⟩

theorem grow_below (W : World) (k : Nat) (os : Array Obj) : Below W.heap.size W (Sort.grow (W.drewN k) os) :=
  ⟨rfl, rfl, rfl, by simp [Sort.grow, World.drewN], fun j hj => Sort.heap_grow_old (W.drewN k) os hj⟩

/-- A variable that has not turned. -/
theorem var_below {P : Program} {w w' : World} {name : String} {cs : Array Value} (h : w.var? P name = some cs) (hb : ∀ g, P.globalNamed name = some g → w'.heap[g]? = w.heap[g]?) : w'.var? P name = some cs := by
  unfold World.var? at h ⊢
  cases hg : P.globalNamed name with
  | none => rw [hg] at h; cases h
  | some g =>
    rw [hg] at h
    simp only [Option.bind_some] at h ⊢
    rw [hb g hg]
    exact h

theorem var_lt {P : Program} {w : World} {name : String} {cs : Array Value} (h : w.var? P name = some cs) {g : Nat} (hg : P.globalNamed name = some g) : g < w.heap.size := by
  unfold World.var? at h
  rw [hg] at h
  simp only [Option.bind_some] at h
  by_cases hlt : g < w.heap.size
  · exact hlt
  · rw [Array.getElem?_eq_none (by omega)] at h; cases h

theorem itoaAt_tab (w : World) (y : Nat) (h : y < 1000) (ht : TabIs Tryd.prog w "internal/strconv.uint64pow10" .u64 pow10Tab) : ItoaAt w y := fun W hb => by
  have ht' : TabIs Tryd.prog W "internal/strconv.uint64pow10" .u64 pow10Tab := var_below ht fun g hg => hb.block g (var_lt ht hg)
  refine (Tryd.strconv_Itoa (y : Int) (by omega) (by omega) W ht').mono fun e w' ⟨h1, k, os, h2⟩ => ⟨?_, by rw [h2]; exact grow_below W k _⟩
  rw [h1]
  have : itoa (y : Int) = decDigits y := by unfold itoa; rw [if_neg (by omega)]; simp
  rw [this]; rfl


theorem dec_three (n : Nat) (h : 100 ≤ n) (h1 : n < 1000) : decDigits n = [UInt8.ofNat (48 + n / 100), UInt8.ofNat (48 + n / 10 % 10), UInt8.ofNat (48 + n % 10)] := by
  rw [decDigits, dif_neg (by omega), dec_two _ (by omega) (by omega), show n / 10 / 10 = n / 100 by omega]
  rfl

/-- The digits of a number below 1000. -/
theorem dec_cases (n : Nat) (h : n < 1000) : decDigits n = if n < 10 then [UInt8.ofNat (48 + n)] else if n < 100 then [UInt8.ofNat (48 + n / 10), UInt8.ofNat (48 + n % 10)] else [UInt8.ofNat (48 + n / 100), UInt8.ofNat (48 + n / 10 % 10), UInt8.ofNat (48 + n % 10)] := by
  split
  · exact dec_one n (by omega)
  · split
    · exact dec_two n (by omega) (by omega)
    · exact dec_three n (by omega) h

def digitB (c : UInt8) : Bool := decide (48 ≤ c.toNat ∧ c.toNat ≤ 57)

theorem ofNat_toNat (n : Nat) (h : n < 10) : (UInt8.ofNat (48 + n)).toNat = 48 + n := by
  rw [UInt8.toNat_ofNat']
  omega
theorem digit_ofNat (n : Nat) (h : n < 10) : digitB (UInt8.ofNat (48 + n)) = true := by
  unfold digitB
  rw [ofNat_toNat n h, decide_eq_true_eq]
  omega
theorem dec_digits (n : Nat) (h : n < 1000) : ∀ c ∈ decDigits n, digitB c = true := by
  rw [dec_cases n h]
  intro c hc
  split at hc
  · simp only [List.mem_cons, List.mem_nil_iff, or_false] at hc; subst hc; exact digit_ofNat _ (by omega)
  · split at hc
    · simp only [List.mem_cons, List.mem_nil_iff, or_false] at hc; rcases hc with rfl | rfl <;> exact digit_ofNat _ (by omega)
    · simp only [List.mem_cons, List.mem_nil_iff, or_false] at hc; rcases hc with rfl | rfl | rfl <;> exact digit_ofNat _ (by omega)

theorem atoi_one (p : Nat) (h : p < 10) : atoiAll [UInt8.ofNat (48 + p)] = .ok (p : Int) := by
  have : ∀ p : Fin 10, atoiAll [UInt8.ofNat (48 + p.val)] = .ok (p.val : Int) := by decide
  exact this ⟨p, h⟩
theorem atoi_two (p q : Nat) (h : p < 10) (hq : q < 10) : atoiAll [UInt8.ofNat (48 + p), UInt8.ofNat (48 + q)] = .ok ((10 * p + q : Nat) : Int) := by
  have : ∀ p q : Fin 10, atoiAll [UInt8.ofNat (48 + p.val), UInt8.ofNat (48 + q.val)] = .ok ((10 * p.val + q.val : Nat) : Int) := by decide +kernel
  exact this ⟨p, h⟩ ⟨q, hq⟩
theorem atoi_three (p q r : Nat) (h : p < 10) (hq : q < 10) (hr : r < 10) : atoiAll [UInt8.ofNat (48 + p), UInt8.ofNat (48 + q), UInt8.ofNat (48 + r)] = .ok ((100 * p + 10 * q + r : Nat) : Int) := by
  have : ∀ p q r : Fin 10, atoiAll [UInt8.ofNat (48 + p.val), UInt8.ofNat (48 + q.val), UInt8.ofNat (48 + r.val)] = .ok ((100 * p.val + 10 * q.val + r.val : Nat) : Int) := by decide +kernel
  exact this ⟨p, h⟩ ⟨q, hq⟩ ⟨r, hr⟩

theorem atoi_dec (n : Nat) (h : n < 1000) : atoiAll (decDigits n) = .ok (n : Int) := by
  rw [dec_cases n h]
  split
  · exact atoi_one n (by omega)
  · split
    · rw [atoi_two _ _ (by omega) (by omega)]; congr 2; omega
    · rw [atoi_three _ _ _ (by omega) (by omega) (by omega)]; congr 2; omega

/-- What Go's library reads of its variables stands as the program's text lays it. -/
structure Lay (w : World) : Prop where
  pow : TabIs Tryd.prog w "internal/strconv.uint64pow10" .u64 pow10Tab
  syn : ∃ tp p, w.var? Tryd.prog "strconv.ErrSyntax" = some #[.iface tp p]
  ran : ∃ tp p, w.var? Tryd.prog "strconv.ErrRange" = some #[.iface tp p]
  max : ∃ m, w.cell? ⟨2, 0, none⟩ = some (.int .i64 m)

theorem cell_lt {w : World} {b o : Nat} {v : Value} (h : w.cell? ⟨b, o, none⟩ = some v) : b < w.heap.size := by
  by_cases hlt : b < w.heap.size
  · exact hlt
  · rw [World.cell?, show w.heap[b]? = none from Array.getElem?_eq_none (by omega)] at h
    cases h

/-- The blocks of the four variables. -/
def layBlocks : List Nat := [5, 3, 4, 2]

theorem Lay.keep {w w' : World} (h : Lay w) (hk : ∀ g ∈ layBlocks, w'.heap[g]? = w.heap[g]?) : Lay w' := by
  have g0 : Tryd.prog.globalNamed "internal/strconv.uint64pow10" = some 5 := by kernel_rfl
  have g1 : Tryd.prog.globalNamed "strconv.ErrSyntax" = some 3 := by kernel_rfl
  have g2 : Tryd.prog.globalNamed "strconv.ErrRange" = some 4 := by kernel_rfl
  obtain ⟨h1, ⟨t2, p2, h2⟩, ⟨t3, p3, h3⟩, ⟨m, h4⟩⟩ := h
  refine ⟨var_below h1 fun g hg => ?_, ⟨t2, p2, var_below h2 fun g hg => ?_⟩, ⟨t3, p3, var_below h3 fun g hg => ?_⟩, m, ?_⟩
  · obtain rfl := Option.some.inj (g0.symm.trans hg); exact hk _ (by simp [layBlocks])
  · obtain rfl := Option.some.inj (g1.symm.trans hg); exact hk _ (by simp [layBlocks])
  · obtain rfl := Option.some.inj (g2.symm.trans hg); exact hk _ (by simp [layBlocks])
  · rw [World.cell?_of_block (w := w) (hk _ (by simp [layBlocks]))]; exact h4

theorem Lay.lt {w : World} (h : Lay w) : ∀ g ∈ layBlocks, g < w.heap.size := by
  have g0 : Tryd.prog.globalNamed "internal/strconv.uint64pow10" = some 5 := by kernel_rfl
  have g1 : Tryd.prog.globalNamed "strconv.ErrSyntax" = some 3 := by kernel_rfl
  have g2 : Tryd.prog.globalNamed "strconv.ErrRange" = some 4 := by kernel_rfl
  obtain ⟨h1, ⟨t2, p2, h2⟩, ⟨t3, p3, h3⟩, ⟨m, h4⟩⟩ := h
  intro g hg
  simp only [layBlocks, List.mem_cons, List.mem_nil_iff, or_false] at hg
  rcases hg with rfl | rfl | rfl | rfl
  · exact var_lt h1 g0
  · exact var_lt h2 g1
  · exact var_lt h3 g2
  · exact cell_lt h4

theorem Lay.below {w w' : World} {B : Nat} (h : Lay w) (hb : Below B w w') (hB : w.heap.size ≤ B) : Lay w' := h.keep fun g hg => hb.block g (by have := h.lt g hg; omega)

/-- Atoi where the text is a number. -/
theorem atoi_ok (s : ByteArray) (v : Int) (w : World) (hs : s.size ≤ 1000000) (h : atoiAll s.data.toList = .ok v) :
    Calls Tryd.prog 44 #[.string s] w fun e w' => e = .returned (.tuple #[.int .i64 v, .nilIface]) ∧ Below w.heap.size w w' :=
  (Tryd.strconv_Atoi_ok s (by omega) v h w).mono fun e w' ⟨h1, h2⟩ => ⟨h1, by
    rcases h2 with rfl | ⟨t, rfl⟩
    · exact Below.refl _ _
    · exact bytesWorld_below _ _ _⟩

/-- What Atoi hands back where the text is no number. -/
def AtoiBad (w : World) (e : Ending) (w' : World) : Prop := ∃ (v : Int) (T : TypeId) (N : Nat), e = .returned (.tuple #[.int .i64 v, .iface T (.pointer (some ⟨N, 0, none⟩))]) ∧ Below w.heap.size w w'

theorem atoi_bad (s : ByteArray) (w : World) (hL : Lay w) (hs : s.size ≤ 1000000) (h : ∀ v, atoiAll s.data.toList ≠ .ok v) : Calls Tryd.prog 44 #[.string s] w (AtoiBad w) := by
  by_cases h2 : atoiAll s.data.toList = .range
  · obtain ⟨tp, p, hp⟩ := hL.ran
    exact (Tryd.strconv_Atoi_range_var s (by omega) h2 tp p w hp).mono fun e w' ⟨N, h1, _, _, h4⟩ => ⟨_, _, N, h1, h4⟩
  · obtain ⟨tp, p, hp⟩ := hL.syn
    exact (Tryd.strconv_Atoi_syntax_var s (by omega) h h2 tp p w hp).mono fun e w' ⟨N, h1, _, _, h4⟩ => ⟨_, _, N, h1, h4⟩

theorem bcell {W w1 : World} (hb : Below W.heap.size W w1) : (∀ b o, b < W.heap.size → w1.cell? ⟨b, o, none⟩ = W.cell? ⟨b, o, none⟩) ∧ (∀ b o, b < W.heap.size → w1.frozen? ⟨b, o, none⟩ = W.frozen? ⟨b, o, none⟩) :=
  ⟨fun b o h => hb.cell (p := ⟨b, o, none⟩) h, fun b o h => hb.frozen (p := ⟨b, o, none⟩) h⟩

theorem Lay.itoa {w : World} (h : Lay w) (d : Nat) (hd : d ≤ 36000) : ItoaAt w (d / 360) := itoaAt_tab w _ (by omega) h.pow

end Go.Proofs.YtebgfbcojhmdlaaDoor
