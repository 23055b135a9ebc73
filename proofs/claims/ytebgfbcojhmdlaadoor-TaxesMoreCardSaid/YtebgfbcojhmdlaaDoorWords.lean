/- Plain mathematics of cutting a text at a byte: its words, the index of a byte, the rest behind it; of no program; no condition. -/
import Derived.Test.YtebgfbcojhmdlaaDoorLib
namespace Go.Proofs.YtebgfbcojhmdlaaDoor
open Go.RowKit Go.Lib Go.Proofs

/-- The words of a text, cut at every byte c. -/
def wordsL (c : UInt8) : List UInt8 → List (List UInt8)
  | [] => [[]]
  | x :: l => if x = c then [] :: wordsL c l else match wordsL c l with
    | [] => [[x]]
    | h :: t => (x :: h) :: t

theorem wordsL_ne (c : UInt8) (l : List UInt8) : wordsL c l ≠ [] := by
  cases l with
  | nil => simp [wordsL]
  | cons x l =>
    unfold wordsL
    split
    · simp
    · split <;> simp

theorem indexByte_cases (l : List UInt8) (c : UInt8) : (indexByte l c = -1 ∧ c ∉ l) ∨ ∃ i : Nat, indexByte l c = i ∧ i < l.length ∧ c ∉ l.take i ∧ l.drop i = c :: l.drop (i + 1) := by
  induction l with
  | nil => exact Or.inl ⟨rfl, by simp⟩
  | cons b l ih =>
    unfold indexByte
    by_cases hb : b = c
    · subst hb
      refine Or.inr ⟨0, by simp, by simp, by simp, by simp⟩
    · have hbeq : (b == c) = false := by simpa using hb
      rw [hbeq]
      rcases ih with ⟨h1, h2⟩ | ⟨i, h1, h2, h3, h4⟩
      · refine Or.inl ⟨by rw [h1]; rfl, ?_⟩
        simp only [List.mem_cons, not_or]
        exact ⟨fun e => hb e.symm, h2⟩
      · refine Or.inr ⟨i + 1, ?_, by simp; omega, ?_, by simpa using h4⟩
        · rw [h1]
          have : ((i : Int) == -1) = false := by rw [beq_eq_false_iff_ne]; omega
          rw [this]
          simp
        · simp only [List.take_succ_cons, List.mem_cons, not_or]
          exact ⟨fun e => hb e.symm, h3⟩

theorem wordsL_no {c : UInt8} {l : List UInt8} (h : c ∉ l) : wordsL c l = [l] := by
  induction l with
  | nil => rfl
  | cons x l ih =>
    simp only [List.mem_cons, not_or] at h
    unfold wordsL
    rw [if_neg (fun e => h.1 e.symm), ih h.2]

theorem wordsL_app {c : UInt8} {a r : List UInt8} (h : c ∉ a) : wordsL c (a ++ c :: r) = a :: wordsL c r := by
  induction a with
  | nil => simp [wordsL]
  | cons x a ih =>
    simp only [List.mem_cons, not_or] at h
    rw [List.cons_append, wordsL, if_neg (fun e => h.1 e.symm), ih h.2]

theorem wordsL_hit {c : UInt8} {l : List UInt8} {i : Nat} (h3 : c ∉ l.take i) (h4 : l.drop i = c :: l.drop (i + 1)) : wordsL c l = l.take i :: wordsL c (l.drop (i + 1)) := by
  have : l = l.take i ++ c :: l.drop (i + 1) := by rw [← h4, List.take_append_drop]
  rw [show wordsL c l = wordsL c (l.take i ++ c :: l.drop (i + 1)) by rw [← this], wordsL_app h3]

theorem wordsL_clean (c : UInt8) (l : List UInt8) : ∀ w ∈ wordsL c l, c ∉ w := by
  induction l with
  | nil => intro w hw; simp [wordsL] at hw; subst hw; simp
  | cons x l ih =>
    unfold wordsL
    split
    · intro w hw
      rcases List.mem_cons.1 hw with rfl | hw
      · simp
      · exact ih w hw
    · rename_i hx
      split
      · intro w hw; simp at hw; subst hw; simp; exact fun e => hx e.symm
      · rename_i h t he
        intro w hw
        rcases List.mem_cons.1 hw with rfl | hw
        · have := ih h (by rw [he]; simp)
          simp only [List.mem_cons, not_or]
          exact ⟨fun e => hx e.symm, this⟩
        · exact ih w (by rw [he]; simp [hw])

/-- The text of some words, with c between them. -/
def joinL (c : UInt8) : List (List UInt8) → List UInt8
  | [] => []
  | [a] => a
  | a :: b :: t => a ++ c :: joinL c (b :: t)

theorem joinL_words (c : UInt8) (l : List UInt8) : joinL c (wordsL c l) = l := by
  induction l with
  | nil => rfl
  | cons x l ih =>
    unfold wordsL
    have hne := wordsL_ne c l
    split
    · rename_i hx
      subst hx
      cases hw : wordsL x l with
      | nil => exact absurd hw hne
      | cons a t => rw [hw] at ih; rw [joinL, ih]; rfl
    · cases hw : wordsL c l with
      | nil => exact absurd hw hne
      | cons a t =>
        rw [hw] at ih
        cases t with
        | nil => simp only [joinL] at ih ⊢; rw [ih]
        | cons b t => simp only [joinL] at ih ⊢; rw [← ih]; rfl

theorem words_join (c : UInt8) : ∀ (ws : List (List UInt8)), ws ≠ [] → (∀ w ∈ ws, c ∉ w) → wordsL c (joinL c ws) = ws
  | [], h, _ => absurd rfl h
  | [a], _, h => wordsL_no (h a (by simp))
  | a :: b :: t, _, h => by
    rw [joinL, wordsL_app (h a (by simp)), words_join c (b :: t) (by simp) (fun w hw => h w (List.mem_cons_of_mem _ hw))]

theorem wordsL_len (c : UInt8) (l : List UInt8) : ∀ w ∈ wordsL c l, w.length ≤ l.length := by
  induction l with
  | nil => intro w hw; simp [wordsL] at hw; subst hw; simp
  | cons x l ih =>
    unfold wordsL
    split
    · intro w hw
      rcases List.mem_cons.1 hw with rfl | hw
      · simp
      · have := ih w hw; simp; omega
    · split
      · intro w hw; simp at hw; subst hw; simp
      · rename_i h t he
        intro w hw
        rcases List.mem_cons.1 hw with rfl | hw
        · have := ih h (by rw [he]; simp); simp; omega
        · have := ih w (by rw [he]; simp [hw]); simp; omega

/-- A text of these bytes. -/
def txt (l : List UInt8) : ByteArray := ⟨l.toArray⟩
theorem txt_list (l : List UInt8) : (txt l).data.toList = l := by simp [txt]
theorem txt_back (s : ByteArray) : txt s.data.toList = s := by cases s; simp [txt]
theorem txt_size (l : List UInt8) : (txt l).size = l.length := by simp [txt, ByteArray.size]
theorem txt_inj {a b : List UInt8} (h : txt a = txt b) : a = b := by have := congrArg (fun s => s.data.toList) h; simpa [txt_list] using this
theorem size_list (s : ByteArray) : s.size = s.data.toList.length := by rw [Array.length_toList]; rfl
theorem bytes_ext {a b : ByteArray} (h : a.data.toList = b.data.toList) : a = b := by rw [← txt_back a, ← txt_back b, h]

theorem extract_list (s : ByteArray) (a b : Nat) : (s.extract a b).data.toList = (s.data.toList.drop a).take (b - a) := by
  rw [ByteArray.data_extract, Array.toList_extract, List.extract_eq_take_drop]
theorem extract_front (s : ByteArray) (b : Nat) : s.extract 0 b = txt (s.data.toList.take b) := bytes_ext (by rw [extract_list, txt_list]; simp)
theorem extract_back (s : ByteArray) (a : Nat) : s.extract a s.size = txt (s.data.toList.drop a) := bytes_ext (by
  rw [extract_list, txt_list, size_list, List.take_of_length_le (by simp)])

/-- The words of a text, as texts. -/
def wordsB (c : UInt8) (s : ByteArray) : List ByteArray := (wordsL c s.data.toList).map txt

end Go.Proofs.YtebgfbcojhmdlaaDoor
