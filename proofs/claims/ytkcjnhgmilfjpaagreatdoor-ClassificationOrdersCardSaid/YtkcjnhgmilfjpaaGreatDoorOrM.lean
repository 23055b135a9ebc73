/- Plain mathematics of the order of codes: who lies under a code comes behind it, and together with the others; of no function of the program; no condition. -/
import Derived.Test.YtkcjnhgmilfjpaaGreatDoorLvM
import Derived.Test.YtkcjnhgmilfjpaaGreatDoorClCode
namespace Go.Proofs.YtkcjnhgmilfjpaaGreatDoor
open Go.RowKit Go.Lib Go.Proofs

theorem cmpL_prefix : ∀ (a s : List Int), 0 ≤ cmpL (a ++ s) a
  | [], [] => by simp [cmpL]
  | [], _ :: _ => by simp [cmpL]
  | x :: a, s => by
    rw [List.cons_append, cmpL, if_neg (Int.lt_irrefl _), if_neg (Int.lt_irrefl _)]
    exact cmpL_prefix a s

theorem cmpL_between : ∀ (p q s : List Int), cmpL p q ≤ 0 → cmpL q (p ++ s) ≤ 0 → p <+: q
  | [], q, _, _, _ => List.nil_prefix
  | a :: p, [], s, h, _ => by simp [cmpL] at h
  | a :: p, b :: q, s, h1, h2 => by
    rw [List.cons_append] at h2
    unfold cmpL at h1 h2
    by_cases h3 : a < b
    · rw [if_neg (by omega), if_pos h3] at h2; omega
    · rw [if_neg h3] at h1
      by_cases h4 : b < a
      · rw [if_pos h4] at h1; omega
      · obtain rfl : a = b := by omega
        rw [if_neg h4] at h1
        rw [if_neg (Int.lt_irrefl _), if_neg (Int.lt_irrefl _)] at h2
        obtain ⟨t, ht⟩ := cmpL_between p q s h1 h2
        exact ⟨t, by rw [← ht]; rfl⟩

theorem asInts_prefix {a b : List Nat} : asInts a <+: asInts b ↔ a <+: b := by
  constructor
  · rintro ⟨t, ht⟩
    refine List.prefix_iff_eq_take.2 (asInts_inj ?_)
    have h1 := congrArg (List.take (asInts a).length) ht
    rw [List.take_append_of_le_length (Nat.le_refl _), List.take_length] at h1
    rw [h1]
    unfold asInts
    rw [List.length_map, List.map_take]
  · rintro ⟨t, rfl⟩
    exact ⟨asInts t, by unfold asInts; rw [List.map_append]⟩

theorem cmpN_prefix {a b : List Nat} (h : b <+: a) : 0 ≤ cmpN a b := by
  obtain ⟨t, rfl⟩ := h
  unfold cmpN asInts
  rw [List.map_append]
  exact cmpL_prefix _ _

theorem cmpN_between {a b c : List Nat} (h1 : cmpN a b ≤ 0) (h2 : cmpN b c ≤ 0) (h3 : a <+: c) : a <+: b := by
  obtain ⟨t, rfl⟩ := h3
  unfold cmpN at h1 h2
  refine asInts_prefix.1 (cmpL_between _ _ (asInts t) h1 ?_)
  have e : asInts (a ++ t) = asInts a ++ asInts t := by unfold asInts; rw [List.map_append]
  rwa [e] at h2

theorem cmpN_le_trans {a b c : List Nat} (h1 : cmpN a b ≤ 0) (h2 : cmpN b c ≤ 0) : cmpN a c ≤ 0 := by
  by_cases e1 : cmpN a b = 0
  · rw [cmpN_zero] at e1; subst e1; exact h2
  · by_cases e2 : cmpN b c = 0
    · rw [cmpN_zero] at e2; subst e2; exact h1
    · exact Int.le_of_lt (cmpN_trans (show cmpN a b < 0 by omega) (show cmpN b c < 0 by omega))

theorem below_then {w A B : World} (h : Below w.heap.size w A) (k : Below A.heap.size A B) : Below w.heap.size w B := h.trans (k.mono h.size)

theorem underB_bool {a b : List Nat} (ha : GoodN a) (hb : GoodN b) : underB (codeT a) (codeT b) = decide (b <+: a) := by
  rw [Bool.eq_iff_iff, underB_codeT ha hb, decide_eq_true_iff]

/-- What the law asks of three codes. -/
structure Ordered (p q r : List Nat) (x x' y z : Int) (ab ca ba bc ac : Bool) : Prop where
  anti : x' = -x
  zero : (x = 0) ↔ codeT p = codeT q
  three : x = -1 ∨ x = 0 ∨ x = 1
  trans : x ≤ 0 → y ≤ 0 → z ≤ 0
  under : ab = true → 0 ≤ x
  between : x ≤ 0 → y ≤ 0 → ca = true → ba = true
  chain : ab = true → bc = true → ac = true

theorem ordered {p q r : List Nat} (hp : GoodN p) (hq : GoodN q) (hr : GoodN r) :
    Ordered p q r (cmpCode (codeT p) (codeT q)) (cmpCode (codeT q) (codeT p)) (cmpCode (codeT q) (codeT r)) (cmpCode (codeT p) (codeT r)) (underB (codeT p) (codeT q)) (underB (codeT r) (codeT p)) (underB (codeT q) (codeT p)) (underB (codeT q) (codeT r)) (underB (codeT p) (codeT r)) := by
  rw [cmpCode_codeT hp hq, cmpCode_codeT hq hp, cmpCode_codeT hq hr, cmpCode_codeT hp hr, underB_bool hp hq, underB_bool hr hp, underB_bool hq hp, underB_bool hq hr, underB_bool hp hr]
  refine ⟨cmpN_anti q p, ?_, cmpN_three p q, fun h1 h2 => cmpN_le_trans h1 h2, fun h => cmpN_prefix (of_decide_eq_true h), fun h1 h2 h3 => decide_eq_true (cmpN_between h1 h2 (of_decide_eq_true h3)), fun h1 h2 => decide_eq_true ((of_decide_eq_true h2).trans (of_decide_eq_true h1))⟩
  constructor
  · intro h; rw [cmpN_zero.1 h]
  · intro h; exact cmpN_zero.2 (codeT_inj hp hq h)

end Go.Proofs.YtkcjnhgmilfjpaaGreatDoor
