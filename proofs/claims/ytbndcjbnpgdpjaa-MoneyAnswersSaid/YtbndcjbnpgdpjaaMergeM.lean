/- Plain mathematics of a merge in place by rotations: a rotation of two sorted halves, cut at the right places, leaves two pairs of sorted halves; for a strict weak order. -/
import Derived.Test.YtbndcjbnpgdpjaaSortM
namespace Go.Proofs.Ytbndcjbnpgdpjaa
open Go.Sort Go.Proofs

section
variable {α : Type} [Inhabited α]

/-- d' is d with the blocks [a, m) and [m, b) exchanged. -/
structure Rot (a m b : Nat) (d d' : Array α) : Prop where
  perm : PermIn a b d d'
  left : ∀ k, a ≤ k → k < a + (b - m) → d'[k]! = d[k - a + m]!
  right : ∀ k, a + (b - m) ≤ k → k < b → d'[k]! = d[k - (b - m)]!

theorem Rot.size {a m b : Nat} {d d' : Array α} (h : Rot a m b d d') : d'.size = d.size := h.perm.1
theorem Rot.out {a m b : Nat} {d d' : Array α} (h : Rot a m b d d') (k : Nat) (hk : k < a ∨ b ≤ k) : d'[k]! = d[k]! := h.perm.2.1 k hk

theorem Rot.none_left {a b : Nat} {d : Array α} : Rot a a b d d :=
  ⟨permIn_refl _ _ _, fun k h1 _ => by rw [show k - a + a = k by omega], fun k h1 h2 => by omega⟩
theorem Rot.none_right {a b : Nat} {d : Array α} : Rot a b b d d :=
  ⟨permIn_refl _ _ _, fun k h1 h2 => by omega, fun k h1 h2 => by rw [show k - (b - b) = k by omega]⟩

/-- One swap more moves the first element of a block one place on. -/
theorem Rot.step_up {a k : Nat} {d d' : Array α} (h : Rot a (a + 1) (k + 1) d d') (hak : a ≤ k) (hk : k + 1 < d.size) : Rot a (a + 1) (k + 2) d (swp d' k (k + 1)) := by
  have g := swp_get d' (i := k) (j := k + 1) (by rw [h.size]; omega) (by rw [h.size]; omega)
  refine ⟨permIn_trans _ _ _ _ _ (permIn_mono _ _ _ _ _ _ (Nat.le_refl _) (by omega) (by omega) h.perm) (swp_permIn _ _ _ _ _ hak (by omega) (by omega) (by omega) (by rw [h.size]; omega)), ?_, ?_⟩
  · intro t h1 h2
    rw [g]
    by_cases e1 : t = k + 1
    · omega
    · by_cases e2 : t = k
      · rw [if_neg e1, if_pos e2, h.out (k + 1) (by omega)]; congr 1; omega
      · rw [if_neg e1, if_neg e2, h.left t h1 (by omega)]
  · intro t h1 h2
    obtain rfl : t = k + 1 := by omega
    rw [g, if_pos rfl, h.right k (by omega) (by omega)]
    congr 1; omega

theorem Rot.step_down {k m : Nat} {d d' : Array α} (h : Rot (k + 1) m (m + 1) d d') (hkm : k + 1 ≤ m) (hm : m < d.size) : Rot k m (m + 1) d (swp d' (k + 1) k) := by
  have g := swp_get d' (i := k + 1) (j := k) (by rw [h.size]; omega) (by rw [h.size]; omega)
  refine ⟨permIn_trans _ _ _ _ _ (permIn_mono _ _ _ _ _ _ (by omega) (Nat.le_refl _) (by omega) h.perm) (swp_permIn _ _ _ _ _ (by omega) (by omega) (by omega) (by omega) (by rw [h.size]; omega)), ?_, ?_⟩
  · intro t h1 h2
    obtain rfl : t = k := by omega
    rw [g, if_pos rfl, h.left (t + 1) (by omega) (by omega)]
    congr 1; omega
  · intro t h1 h2
    rw [g]
    rw [if_neg (by omega)]
    by_cases e : t = k + 1
    · rw [if_pos e, h.out k (by omega)]; congr 1; omega
    · rw [if_neg e, h.right t (by omega) (by omega)]

/-- The first n places from a on and from b on, exchanged. -/
def swapR (d : Array α) (a b : Nat) : Nat → Array α
  | 0 => d
  | n + 1 => swp (swapR d a b n) (a + n) (b + n)

theorem swapR_size (d : Array α) (a b n : Nat) : (swapR d a b n).size = d.size := by
  induction n with
  | zero => rfl
  | succ n ih => rw [swapR, swp_size, ih]

theorem swapR_perm (d : Array α) (a b lo hi : Nat) : ∀ n, lo ≤ a → lo ≤ b → a + n ≤ hi → b + n ≤ hi → hi ≤ d.size → PermIn lo hi d (swapR d a b n)
  | 0, _, _, _, _, _ => permIn_refl _ _ _
  | n + 1, h1, h2, h3, h4, h5 => permIn_trans _ _ _ _ _ (swapR_perm d a b lo hi n h1 h2 (by omega) (by omega) h5) (swp_permIn _ _ _ _ _ (by omega) (by omega) (by omega) (by omega) (by rw [swapR_size]; exact h5))

theorem swapR_get (d : Array α) (a b : Nat) : ∀ n, a + n ≤ b → b + n ≤ d.size → ∀ k, (swapR d a b n)[k]! = if a ≤ k ∧ k < a + n then d[k - a + b]! else if b ≤ k ∧ k < b + n then d[k - b + a]! else d[k]!
  | 0, _, _, k => by rw [swapR, if_neg (by omega), if_neg (by omega)]
  | n + 1, h1, h2, k => by
    have ih := swapR_get d a b n (by omega) (by omega)
    rw [swapR, swp_get _ (by rw [swapR_size]; omega) (by rw [swapR_size]; omega), ih, ih, ih]
    by_cases e1 : k = b + n
    · subst e1
      rw [if_pos rfl, if_neg (by omega), if_neg (by omega), if_neg (by omega), if_pos (by omega)]
      congr 1; omega
    · rw [if_neg e1]
      by_cases e2 : k = a + n
      · subst e2
        rw [if_pos rfl, if_neg (by omega), if_neg (by omega), if_pos (by omega)]
        congr 1; omega
      · rw [if_neg e2]
        by_cases e3 : a ≤ k ∧ k < a + n
        · rw [if_pos e3, if_pos (by omega)]
        · have e5 : ¬ (a ≤ k ∧ k < a + (n + 1)) := by omega
          by_cases e4 : b ≤ k ∧ k < b + n
          · have e6 : b ≤ k ∧ k < b + (n + 1) := by omega
            rw [if_neg e3, if_pos e4, if_neg e5, if_pos e6]
          · have e6 : ¬ (b ≤ k ∧ k < b + (n + 1)) := by omega
            rw [if_neg e3, if_neg e4, if_neg e5, if_neg e6]

/-- The last step of a rotation: two blocks of one length. -/
theorem rot_even (d : Array α) (m i : Nat) (him : i ≤ m) (hsz : m + i ≤ d.size) : Rot (m - i) m (m + i) d (swapR d (m - i) m i) := by
  refine ⟨swapR_perm d _ _ _ _ i (Nat.le_refl _) (by omega) (by omega) (by omega) hsz, ?_, ?_⟩
  · intro k h1 h2
    rw [swapR_get d _ _ i (by omega) hsz, if_pos (by omega)]
  · intro k h1 h2
    rw [swapR_get d _ _ i (by omega) hsz, if_neg (by omega), if_pos (by omega)]
    congr 1; omega

/-- A step of a rotation, the left block being the longer one. -/
theorem rot_more (d d' : Array α) (m i j : Nat) (him : i ≤ m) (hsz : m + j ≤ d.size) (hji : j < i) (h : Rot (m - (i - j)) m (m + j) (swapR d (m - i) m j) d') : Rot (m - i) m (m + j) d d' := by
  have g := swapR_get d (m - i) m j (by omega) hsz
  refine ⟨permIn_trans _ _ _ _ _ (swapR_perm d _ _ _ _ j (Nat.le_refl _) (by omega) (by omega) (by omega) hsz) (permIn_mono _ _ _ _ _ _ (by omega) (Nat.le_refl _) (by rw [swapR_size]; exact hsz) h.perm), ?_, ?_⟩
  · intro k h1 h2
    rw [h.out k (by omega), g, if_pos (by omega)]
  · intro k h1 h2
    by_cases e : k < m - (i - j) + (m + j - m)
    · rw [h.left k (by omega) e, g, if_neg (by omega), if_pos (by omega)]
      congr 1; omega
    · rw [h.right k (by omega) h2, g, if_neg (by omega), if_neg (by omega)]

/-- A step of a rotation, the right block being the longer one. -/
theorem rot_less (d d' : Array α) (m i j : Nat) (him : i ≤ m) (hsz : m + j ≤ d.size) (hij : i < j) (h : Rot (m - i) m (m + (j - i)) (swapR d (m - i) (m + j - i) i) d') : Rot (m - i) m (m + j) d d' := by
  have g := swapR_get d (m - i) (m + j - i) i (by omega) (by omega)
  refine ⟨permIn_trans _ _ _ _ _ (swapR_perm d _ _ _ _ i (Nat.le_refl _) (by omega) (by omega) (by omega) hsz) (permIn_mono _ _ _ _ _ _ (Nat.le_refl _) (by omega) (by rw [swapR_size]; exact hsz) h.perm), ?_, ?_⟩
  · intro k h1 h2
    by_cases e : k < m - i + (m + (j - i) - m)
    · rw [h.left k h1 e, g, if_neg (by omega), if_neg (by omega)]
    · by_cases e2 : k < m + (j - i)
      · rw [h.right k (by omega) e2, g, if_pos (by omega)]
        congr 1; omega
      · omega
  · intro k h1 h2
    by_cases e2 : k < m + (j - i)
    · omega
    · rw [h.out k (by omega), g, if_neg (by omega), if_pos (by omega)]
      congr 1; omega

variable {lt lt2 : α → α → Bool}

/-- Two sorted halves; the test that is asked is the order's on a later and a former element. -/
structure Halves (lt lt2 : α → α → Bool) (a m b : Nat) (d : Array α) : Prop where
  left : SortedIn lt2 a m d
  right : SortedIn lt2 m b d
  cross : ∀ p q, a ≤ p → p < m → m ≤ q → q < b → lt d[q]! d[p]! = lt2 d[q]! d[p]!

/-- Where a rotation of two sorted halves is to be cut: at s on the left, at e on the right. -/
structure Cut (lt2 : α → α → Bool) (a s m e b : Nat) (d : Array α) : Prop where
  low1 : a ≤ s
  sm : s ≤ m
  me : m ≤ e
  eb : e ≤ b
  low : s = a ∨ e = b ∨ lt2 d[e]! d[s - 1]! = false
  high : s = m ∨ e = m ∨ lt2 d[e - 1]! d[s]! = true

theorem sorted_le {a b : Nat} {d : Array α} (hS : SWO lt2) (h : SortedIn lt2 a b d) {i j : Nat} (hi : a ≤ i) (hij : i ≤ j) (hj : j < b) : lt2 d[j]! d[i]! = false := by
  rcases Nat.lt_or_eq_of_le hij with h1 | rfl
  · exact h i j hi h1 hj
  · exact hS.irrefl _

variable {a s m e b : Nat} {d d' : Array α}

theorem Cut.low_all (hS : SWO lt2) (hH : Halves lt lt2 a m b d) (hC : Cut lt2 a s m e b d) {p q : Nat} (hp : a ≤ p) (hps : p < s) (hq : e ≤ q) (hqb : q < b) : lt2 d[q]! d[p]! = false := by
  obtain ⟨h1, h2, h3, h4, hlow, _⟩ := hC
  rcases hlow with h | h | h
  · omega
  · omega
  · exact hS.ntrans _ _ _ (sorted_le hS hH.right h3 hq hqb) (hS.ntrans _ _ _ h (sorted_le hS hH.left hp (show p ≤ s - 1 by omega) (by omega)))

theorem Cut.high_all (hS : SWO lt2) (hH : Halves lt lt2 a m b d) (hC : Cut lt2 a s m e b d) {p q : Nat} (hp : s ≤ p) (hpm : p < m) (hq : m ≤ q) (hqe : q < e) : lt2 d[p]! d[q]! = false := by
  obtain ⟨h1, h2, h3, h4, _, hhigh⟩ := hC
  rcases hhigh with h | h | h
  · omega
  · omega
  · exact hS.ntrans _ _ _ (sorted_le hS hH.left h1 hp hpm) (hS.ntrans _ _ _ (hS.asymmA h) (sorted_le hS hH.right hq (show q ≤ e - 1 by omega) (by omega)))

/-- Behind the rotation: two halves on the left, two on the right, and nothing on the right is less than something on the left. -/
theorem cut_halves (hS : SWO lt2) (hH : Halves lt lt2 a m b d) (hC : Cut lt2 a s m e b d) (hR : Rot s m e d d') :
    Halves lt lt2 a s (s + (e - m)) d' ∧ Halves lt lt2 (s + (e - m)) e b d' ∧ ∀ p q, a ≤ p → p < s + (e - m) → s + (e - m) ≤ q → q < b → lt2 d'[q]! d'[p]! = false := by
  have hC' := hC
  obtain ⟨h1, h2, h3, h4, _, _⟩ := hC'
  refine ⟨⟨?_, ?_, ?_⟩, ⟨?_, ?_, ?_⟩, ?_⟩
  · intro i j hi hij hj
    rw [hR.out i (by omega), hR.out j (by omega)]
    exact hH.left i j hi hij (by omega)
  · intro i j hi hij hj
    rw [hR.left i hi (by omega), hR.left j (by omega) hj]
    exact hH.right _ _ (by omega) (by omega) (by omega)
  · intro p q hp hps hq hqm
    rw [hR.out p (by omega), hR.left q hq hqm]
    exact hH.cross _ _ hp (by omega) (by omega) (by omega)
  · intro i j hi hij hj
    rw [hR.right i hi (by omega), hR.right j (by omega) hj]
    exact hH.left _ _ (by omega) (by omega) (by omega)
  · intro i j hi hij hj
    rw [hR.out i (by omega), hR.out j (by omega)]
    exact hH.right i j (by omega) hij hj
  · intro p q hp hpe hq hqb
    rw [hR.right p hp hpe, hR.out q (by omega)]
    exact hH.cross _ _ (by omega) (by omega) (by omega) (by omega)
  · intro p q hp hpm hq hqb
    by_cases e1 : p < s
    · rw [hR.out p (by omega)]
      by_cases e2 : q < e
      · rw [hR.right q hq e2]
        exact hH.left _ _ hp (by omega) (by omega)
      · rw [hR.out q (by omega)]
        exact hC.low_all hS hH hp e1 (by omega) hqb
    · rw [hR.left p (by omega) hpm]
      by_cases e2 : q < e
      · rw [hR.right q hq e2]
        exact hC.high_all hS hH (by omega) (by omega) (by omega) (by omega)
      · rw [hR.out q (by omega)]
        exact hH.right _ _ (by omega) (by omega) hqb

/-- One of two halves is empty: the other one is all. -/
theorem Halves.sorted (h : Halves lt lt2 a m b d) (he : m = a ∨ m = b) : SortedIn lt2 a b d := by
  rcases he with rfl | rfl
  · exact h.right
  · exact h.left

/-- Both sides merged: all is merged. -/
theorem merge_two {d1 d2 d3 : Array α} {mid : Nat} (ham : a ≤ mid) (hmb : mid ≤ b) (hb : b ≤ d1.size) (hx : ∀ p q, a ≤ p → p < mid → mid ≤ q → q < b → lt2 d1[q]! d1[p]! = false)
    (p1 : PermIn a mid d1 d2) (s1 : SortedIn lt2 a mid d2) (p2 : PermIn mid b d2 d3) (s2 : SortedIn lt2 mid b d3) : PermIn a b d1 d3 ∧ SortedIn lt2 a b d3 := by
  have hs2 : d2.size = d1.size := p1.1
  refine ⟨permIn_trans _ _ _ _ _ (permIn_mono _ _ _ _ _ _ (Nat.le_refl _) hmb hb p1) (permIn_mono _ _ _ _ _ _ ham (Nat.le_refl _) (by omega) p2), ?_⟩
  intro i j hi hij hj
  by_cases e1 : j < mid
  · rw [p2.2.1 i (by omega), p2.2.1 j (by omega)]
    exact s1 i j hi hij e1
  · by_cases e2 : mid ≤ i
    · exact s2 i j e2 hij hj
    · rw [p2.2.1 i (by omega)]
      obtain ⟨q, q1, q2, q3⟩ := PermIn.from p2 (by omega) j (by omega) hj
      obtain ⟨p, r1, r2, r3⟩ := PermIn.from p1 (by omega) i hi (by omega)
      rw [q3, p1.2.1 q (by omega), r3]
      exact hx p q r1 r2 q1 q2

/-- A cut whose rotation already sorts. -/
theorem cut_sorted (hS : SWO lt2) (hb : b ≤ d.size) (hH : Halves lt lt2 a m b d) (hC : Cut lt2 a s m e b d) (hR : Rot s m e d d') (h1 : s = a ∨ e = m ∨ True ∧ ∀ p q, a ≤ p → p < s → m ≤ q → q < e → lt2 d[q]! d[p]! = false) (h2 : e = b ∨ s = m ∨ True ∧ ∀ p q, s ≤ p → p < m → e ≤ q → q < b → lt2 d[q]! d[p]! = false) :
    PermIn a b d d' ∧ SortedIn lt2 a b d' := by
  have hC' := hC
  obtain ⟨c1, c2, c3, c4, _, _⟩ := hC'
  obtain ⟨hl, hr, hx⟩ := cut_halves hS hH hC hR
  have sl : SortedIn lt2 a (s + (e - m)) d' := by
    intro i j hi hij hj
    by_cases e1 : j < s
    · exact hl.left i j hi hij e1
    · by_cases e2 : s ≤ i
      · exact hl.right i j e2 hij hj
      · rw [hR.out i (by omega), hR.left j (by omega) hj]
        rcases h1 with h | h | ⟨_, h⟩
        · omega
        · omega
        · exact h i _ hi (by omega) (by omega) (by omega)
  have sr : SortedIn lt2 (s + (e - m)) b d' := by
    intro i j hi hij hj
    by_cases e1 : j < e
    · exact hr.left i j hi hij e1
    · by_cases e2 : e ≤ i
      · exact hr.right i j e2 hij hj
      · rw [hR.right i hi (by omega), hR.out j (by omega)]
        rcases h2 with h | h | ⟨_, h⟩
        · omega
        · omega
        · exact h _ j (by omega) (by omega) (by omega) hj
  have := merge_two (lt2 := lt2) (d1 := d') (d2 := d') (d3 := d') (a := a) (b := b) (mid := s + (e - m)) (by omega) (by omega) (by rw [hR.size]; exact hb) hx (permIn_refl _ _ _) sl (permIn_refl _ _ _) sr
  exact ⟨permIn_mono _ _ _ _ _ _ c1 c4 hb hR.perm, this.2⟩

end

end Go.Proofs.Ytbndcjbnpgdpjaa
