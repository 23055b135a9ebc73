/- Plain mathematics of a stable sort by blocks: blocks that are sorted, of elements that were theirs from the start, are merged two by two; for a strict weak order. -/
import Derived.Test.YtbndcjbnpgdpjaaMergeM
namespace Go.Proofs.Ytbndcjbnpgdpjaa
open Go.Sort Go.Proofs

section
variable {α : Type} [Inhabited α] {lt lt2 : α → α → Bool}

/-- What d holds from x to y, d0 held from x to y. -/
def Home (d0 : Array α) (x y : Nat) (d : Array α) : Prop := ∀ k, x ≤ k → k < y → ∃ q, x ≤ q ∧ q < y ∧ d[k]! = d0[q]!

/-- The blocks of length s that begin from lo on and before hi are sorted, and their elements were theirs from the start. -/
def Blocks (lt2 : α → α → Bool) (d0 : Array α) (n s lo hi : Nat) (d : Array α) : Prop := ∀ c, lo ≤ c → c < hi → s ∣ c → SortedIn lt2 c (min (c + s) n) d ∧ Home d0 c (min (c + s) n) d

theorem dvd_step {s a c : Nat} (ha : s ∣ a) (hc : s ∣ c) (h : c < a) : c + s ≤ a := by
  obtain ⟨x, rfl⟩ := ha
  obtain ⟨y, rfl⟩ := hc
  have hxy : y < x := Nat.lt_of_mul_lt_mul_left h
  calc s * y + s = s * (y + 1) := by rw [Nat.mul_add, Nat.mul_one]
    _ ≤ s * x := Nat.mul_le_mul_left s hxy

/-- The test that is asked is the order's, on a later and a former element of the start. -/
def Agree (lt lt2 : α → α → Bool) (d0 : Array α) (n : Nat) : Prop := ∀ p q, p < q → q < n → lt d0[q]! d0[p]! = lt2 d0[q]! d0[p]!

theorem home_refl (d0 : Array α) (x y : Nat) : Home d0 x y d0 := fun k h1 h2 => ⟨k, h1, h2, rfl⟩

theorem home_perm {d0 d d' : Array α} {x y : Nat} (h : Home d0 x y d) (hp : PermIn x y d d') (hy : y ≤ d.size) : Home d0 x y d' := fun k h1 h2 => by
  obtain ⟨q, q1, q2, q3⟩ := PermIn.from hp hy k h1 h2
  obtain ⟨r, r1, r2, r3⟩ := h q q1 q2
  exact ⟨r, r1, r2, by rw [q3, r3]⟩

theorem home_join {d0 d : Array α} {x m y : Nat} (h1 : Home d0 x m d) (h2 : Home d0 m y d) (hxm : x ≤ m) (hmy : m ≤ y) : Home d0 x y d := fun k k1 k2 => by
  by_cases hk : k < m
  · obtain ⟨q, q1, q2, q3⟩ := h1 k k1 hk; exact ⟨q, q1, by omega, q3⟩
  · obtain ⟨q, q1, q2, q3⟩ := h2 k (by omega) k2; exact ⟨q, by omega, q2, q3⟩

theorem home_out {d0 d d' : Array α} {x y a b : Nat} (h : Home d0 x y d) (hp : PermIn a b d d') (ho : y ≤ a ∨ b ≤ x) : Home d0 x y d' := fun k k1 k2 => by
  obtain ⟨q, q1, q2, q3⟩ := h k k1 k2
  exact ⟨q, q1, q2, by rw [hp.2.1 k (by omega)]; exact q3⟩

theorem sorted_out {d d' : Array α} {x y a b : Nat} (h : SortedIn lt2 x y d) (hp : PermIn a b d d') (ho : y ≤ a ∨ b ≤ x) : SortedIn lt2 x y d' := fun i j h1 h2 h3 => by
  rw [hp.2.1 i (by omega), hp.2.1 j (by omega)]
  exact h i j h1 h2 h3

/-- Two blocks that follow each other are two halves of a merge. -/
theorem halves_of {d0 d : Array α} {n a m b : Nat} (hA : Agree lt lt2 d0 n) (h1 : SortedIn lt2 a m d) (h2 : SortedIn lt2 m b d) (g1 : Home d0 a m d) (g2 : Home d0 m b d) (hb : b ≤ n) : Halves lt lt2 a m b d := by
  refine ⟨h1, h2, fun p q hp hpm hq hqb => ?_⟩
  obtain ⟨x, x1, x2, x3⟩ := g1 p hp hpm
  obtain ⟨y, y1, y2, y3⟩ := g2 q hq hqb
  rw [x3, y3]
  exact hA x y (by omega) (by omega)

variable {d0 d d' : Array α} {n s a : Nat}

/-- A merge of the blocks at a and a + s, up to b. -/
theorem blocks_merge (hs : 0 < s) (ha : 2 * s ∣ a) (b : Nat) (hb : b = min (a + 2 * s) n) (hm : a + s < b) (hnd : n ≤ d.size)
    (h1 : Blocks lt2 d0 n (2 * s) 0 a d) (h2 : Blocks lt2 d0 n s a n d) (hp : PermIn a b d d') (hso : SortedIn lt2 a b d') : Blocks lt2 d0 n (2 * s) 0 (a + 2 * s) d' ∧ Blocks lt2 d0 n s (a + 2 * s) n d' := by
  have hsa : s ∣ a := Nat.dvd_trans ⟨2, by omega⟩ ha
  have hbn : b ≤ n := by omega
  have e1 : min (a + s) n = a + s := by omega
  have e2 : min (a + s + s) n = b := by omega
  have g1 := (h2 a (Nat.le_refl _) (by omega) hsa).2
  have g2 := (h2 (a + s) (by omega) (by omega) (Nat.dvd_add hsa (Nat.dvd_refl _))).2
  rw [e1] at g1
  rw [e2] at g2
  constructor
  · intro c _ hc hd
    by_cases hca : c < a
    · have := dvd_step ha hd hca
      obtain ⟨r1, r2⟩ := h1 c (Nat.zero_le _) hca hd
      exact ⟨sorted_out r1 hp (by omega), home_out r2 hp (by omega)⟩
    · have : c = a := by
        by_cases e : c = a
        · exact e
        · have := dvd_step hd ha (by omega); omega
      subst this
      rw [← hb]
      exact ⟨hso, home_perm (home_join g1 g2 (by omega) (by omega)) hp (by omega)⟩
  · intro c hc hcn hd
    obtain ⟨r1, r2⟩ := h2 c (by omega) hcn hd
    exact ⟨sorted_out r1 hp (by omega), home_out r2 hp (by omega)⟩

/-- The last block stands alone. -/
theorem blocks_last (hs : 0 < s) (ha : 2 * s ∣ a) (han : n ≤ a + s) (h1 : Blocks lt2 d0 n (2 * s) 0 a d) (h2 : Blocks lt2 d0 n s a n d) : Blocks lt2 d0 n (2 * s) 0 n d := by
  have hsa : s ∣ a := Nat.dvd_trans ⟨2, by omega⟩ ha
  intro c _ hc hd
  by_cases hca : c < a
  · exact h1 c (Nat.zero_le _) hca hd
  · have : c = a := by
      by_cases e : c = a
      · exact e
      · have := dvd_step hd ha (by omega); omega
    subst this
    have := h2 c (Nat.le_refl _) hc hsa
    rw [show min (c + 2 * s) n = min (c + s) n by omega]
    exact this

theorem blocks_short {hi hi' : Nat} (h : Blocks lt2 d0 n s 0 hi d) (hh : hi' ≤ hi) : Blocks lt2 d0 n s 0 hi' d := fun c h1 h2 h3 => h c h1 (by omega) h3

/-- One block more of the first ones. -/
theorem blocks_first (ha : s ∣ a) (b : Nat) (hb : b = min (a + s) n) (hab : a ≤ b) (hnd : n ≤ d.size) (h1 : Blocks lt2 d0 n s 0 a d) (hr : ∀ k, a ≤ k → k < n → d[k]! = d0[k]!) (hp : PermIn a b d d') (hso : SortedIn lt2 a b d') :
    Blocks lt2 d0 n s 0 (a + s) d' ∧ ∀ k, b ≤ k → k < n → d'[k]! = d0[k]! := by
  constructor
  · intro c _ hc hd
    by_cases hca : c < a
    · have := dvd_step ha hd hca
      obtain ⟨r1, r2⟩ := h1 c (Nat.zero_le _) hca hd
      exact ⟨sorted_out r1 hp (by omega), home_out r2 hp (by omega)⟩
    · have : c = a := by
        by_cases e : c = a
        · exact e
        · have := dvd_step hd ha (by omega); omega
      subst this
      rw [← hb]
      exact ⟨hso, home_perm (fun k k1 k2 => ⟨k, k1, k2, hr k k1 (by omega)⟩) hp (by omega)⟩
  · intro k k1 k2
    rw [hp.2.1 k (by omega)]
    exact hr k (by omega) k2

/-- One block is all. -/
theorem blocks_all (h : Blocks lt2 d0 n s 0 n d) (hn : n ≤ s) : SortedIn lt2 0 n d := by
  by_cases h0 : n = 0
  · intro i j h1 h2 h3; omega
  · have := (h 0 (Nat.le_refl _) (by omega) (Nat.dvd_zero _)).1
    rwa [show min (0 + s) n = n by omega] at this

end

end Go.Proofs.Ytbndcjbnpgdpjaa
