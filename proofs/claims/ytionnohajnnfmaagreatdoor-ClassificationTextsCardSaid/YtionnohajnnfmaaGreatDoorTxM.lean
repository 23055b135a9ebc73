/- Plain mathematics of the text of a list of headings: its lines, what they tell apart; and of a list without one of its headings; of no function of the program; no condition. -/
import Derived.Test.YtionnohajnnfmaaGreatDoorLvM
import Derived.Test.YtionnohajnnfmaaGreatDoorClValid
namespace Go.Proofs.YtionnohajnnfmaaGreatDoor
open Go.RowKit Go.Lib Go.Proofs

/-- The lines of a text, each with its line feed. -/
def linesL : List UInt8 → List (List UInt8)
  | [] => []
  | x :: l => if x = 10 then [10] :: linesL l else match linesL l with
    | [] => [[x]]
    | h :: t => (x :: h) :: t

theorem linesL_app {a r : List UInt8} (h : (10 : UInt8) ∉ a) : linesL (a ++ 10 :: r) = (a ++ [10]) :: linesL r := by
  induction a with
  | nil => simp [linesL]
  | cons x a ih =>
    simp only [List.mem_cons, not_or] at h
    rw [List.cons_append, linesL, if_neg (fun e => h.1 e.symm), ih h.2]
    rfl

theorem linesL_no {l : List UInt8} (h : (10 : UInt8) ∉ l) (hn : l ≠ []) : linesL l = [l] := by
  induction l with
  | nil => exact absurd rfl hn
  | cons x l ih =>
    simp only [List.mem_cons, not_or] at h
    rw [linesL, if_neg (fun e => h.1 e.symm)]
    cases l with
    | nil => rfl
    | cons y l => rw [ih h.2 (by simp)]

/-- The line of a heading. -/
def lineL (h : Head) : List UInt8 := h.1.data.toList ++ 32 :: (h.2.data.toList ++ [10])
def lineB (h : Head) : ByteArray := txt (lineL h)
/-- The text of some headings. -/
def textL (hs : List Head) : List UInt8 := hs.flatMap lineL
def textB (hs : List Head) : ByteArray := txt (textL hs)

/-- A heading that can be read back: no blank in its code, no line feed in it. -/
structure Clean (h : Head) : Prop where
  blank : (32 : UInt8) ∉ h.1.data.toList
  feed1 : (10 : UInt8) ∉ h.1.data.toList
  feed2 : (10 : UInt8) ∉ h.2.data.toList

theorem lineL_eq (h : Head) : lineL h = (h.1.data.toList ++ 32 :: h.2.data.toList) ++ [10] := by simp [lineL]

theorem Clean.feed {h : Head} (c : Clean h) : (10 : UInt8) ∉ h.1.data.toList ++ 32 :: h.2.data.toList := by
  simp only [List.mem_append, List.mem_cons, not_or]
  exact ⟨c.feed1, by decide, c.feed2⟩

theorem linesL_text : ∀ (hs : List Head), (∀ h ∈ hs, Clean h) → linesL (textL hs) = hs.map lineL
  | [], _ => rfl
  | h :: hs, hc => by
    have ih := linesL_text hs fun x hx => hc x (List.mem_cons_of_mem _ hx)
    have e : textL (h :: hs) = (h.1.data.toList ++ 32 :: h.2.data.toList) ++ 10 :: textL hs := by
      unfold textL
      rw [List.flatMap_cons, lineL_eq]
      simp
    rw [e, linesL_app (hc h (by simp)).feed, ih, List.map_cons, lineL_eq]

theorem textL_snoc {hs : List Head} {k : Nat} (hk : k < hs.length) : textL (hs.take (k + 1)) = textL (hs.take k) ++ lineL hs[k] := by
  unfold textL
  rw [List.take_succ_eq_append_getElem hk, List.flatMap_append]
  simp

theorem cut_blank {a b r s : List UInt8} (ha : (32 : UInt8) ∉ a) (hb : (32 : UInt8) ∉ b) (h : a ++ 32 :: r = b ++ 32 :: s) : a = b ∧ r = s := by
  have h1 := wordsL_app (c := 32) (r := r) ha
  have h2 := wordsL_app (c := 32) (r := s) hb
  rw [h, h2] at h1
  injection h1 with h3 _
  subst h3
  have := List.append_cancel_left h
  injection this with _ h4
  exact ⟨rfl, h4⟩

theorem lineL_inj {x y : Head} (hx : Clean x) (hy : Clean y) (h : lineL x = lineL y) : x = y := by
  obtain ⟨h1, h2⟩ := cut_blank hx.blank hy.blank h
  have h3 := List.append_cancel_right h2
  exact Prod.ext (bytes_ext h1) (bytes_ext h3)

theorem map_line_inj : ∀ {a b : List Head}, (∀ h ∈ a, Clean h) → (∀ h ∈ b, Clean h) → a.map lineL = b.map lineL → a = b
  | [], [], _, _, _ => rfl
  | [], y :: b, _, _, h => by simp at h
  | x :: a, [], _, _, h => by simp at h
  | x :: a, y :: b, ha, hb, h => by
    simp only [List.map_cons, List.cons.injEq] at h
    rw [lineL_inj (ha x (by simp)) (hb y (by simp)) h.1, map_line_inj (fun z hz => ha z (List.mem_cons_of_mem _ hz)) (fun z hz => hb z (List.mem_cons_of_mem _ hz)) h.2]

theorem textB_inj {a b : List Head} (ha : ∀ h ∈ a, Clean h) (hb : ∀ h ∈ b, Clean h) : textB a = textB b ↔ a = b :=
  ⟨fun h => map_line_inj ha hb (by rw [← linesL_text a ha, ← linesL_text b hb, txt_inj h]), fun h => by rw [h]⟩

theorem textL_len (n : Nat) : ∀ (hs : List Head), (∀ h ∈ hs, h.1.size + h.2.size ≤ n) → (textL hs).length ≤ hs.length * (n + 2)
  | [], _ => by simp [textL]
  | h :: hs, hc => by
    have ih := textL_len n hs fun x hx => hc x (List.mem_cons_of_mem _ hx)
    have h1 := hc h (by simp)
    have e : textL (h :: hs) = lineL h ++ textL hs := by simp [textL]
    rw [e, List.length_append, List.length_cons, Nat.add_mul]
    have : (lineL h).length = h.1.size + h.2.size + 2 := by
      rw [size_list, size_list]; simp [lineL]; omega
    omega

/-- Where the first blank of a line stands. -/
theorem blank_at {h : Head} (c : Clean h) : indexByte (h.1.data.toList ++ 32 :: h.2.data.toList) 32 = (h.1.size : Int) := by
  rcases indexByte_cases (h.1.data.toList ++ 32 :: h.2.data.toList) 32 with ⟨_, h2⟩ | ⟨i, h1, h2, h3, h4⟩
  · exact absurd (by simp) h2
  · rw [h1]
    have e : (h.1.data.toList ++ 32 :: h.2.data.toList) = (h.1.data.toList ++ 32 :: h.2.data.toList).take i ++ 32 :: (h.1.data.toList ++ 32 :: h.2.data.toList).drop (i + 1) := by
      rw [← h4, List.take_append_drop]
    obtain ⟨e1, _⟩ := cut_blank c.blank h3 e
    have e2 := congrArg List.length e1
    rw [List.length_take, Nat.min_eq_left (by omega)] at e2
    rw [size_list]
    omega

/-- Bytes of codes. -/
theorem codeT_bytes {p : List Nat} (h : GoodN p) : ∀ c ∈ (codeT p).data.toList, digitB c = true ∨ c = 46 := by
  obtain ⟨_, _, h3⟩ := h
  unfold codeT
  rw [txt_list]
  have : ∀ (l : List Nat), (∀ n ∈ l, 1 ≤ n ∧ n ≤ 99) → ∀ c ∈ joinL 46 (l.map decDigits), digitB c = true ∨ c = 46 := by
    intro l
    induction l with
    | nil => intro _ c hc; simp [joinL] at hc
    | cons a l ih =>
      intro hl c hc
      have ih := ih fun n hn => hl n (List.mem_cons_of_mem _ hn)
      have ha := hl a (by simp)
      cases l with
      | nil =>
        simp only [List.map_cons, List.map_nil, joinL] at hc
        exact Or.inl (dec_digits a (by omega) c hc)
      | cons b l =>
        simp only [List.map_cons, joinL] at hc ih
        rcases List.mem_append.1 hc with hc | hc
        · exact Or.inl (dec_digits a (by omega) c hc)
        · rcases List.mem_cons.1 hc with hc | hc
          · exact Or.inr hc
          · exact ih c hc
  exact this p h3

theorem codeT_no {p : List Nat} (h : GoodN p) (c : UInt8) (hc : digitB c = false) (hd : c ≠ 46) : c ∉ (codeT p).data.toList := fun hm => by
  rcases codeT_bytes h c hm with h1 | h1
  · rw [hc] at h1; exact absurd h1 (by decide)
  · exact hd h1

theorem names_clean : ∀ s ∈ treeNames, (10 : UInt8) ∉ s.data.toList := by decide
theorem names_ok : ∀ s ∈ treeNames, nameB s = true := by decide
theorem names_small : ∀ s ∈ treeNames, s.size ≤ 14 := by decide

theorem tree_clean {n : Nat} {ls : List (List Nat)} {hs : List Head} (h : TreeHs n ls hs) : ∀ x ∈ hs, Clean x := fun x hx => by
  obtain ⟨k, hk, rfl⟩ := List.getElem_of_mem hx
  have hg : GoodN (ls[k]'(by rw [← tree_len h]; exact hk)) := h.ok.good _ (List.getElem_mem _)
  refine ⟨?_, ?_, names_clean _ (h.names _ hx)⟩
  · rw [tree_code h hk]; exact codeT_no hg 32 (by decide) (by decide)
  · rw [tree_code h hk]; exact codeT_no hg 10 (by decide) (by decide)

theorem tree_small {n : Nat} {ls : List (List Nat)} {hs : List Head} (h : TreeHs n ls hs) : ∀ x ∈ hs, x.1.size + x.2.size ≤ 25 := fun x hx => by
  obtain ⟨k, hk, rfl⟩ := List.getElem_of_mem hx
  have hg : GoodN (ls[k]'(by rw [← tree_len h]; exact hk)) := h.ok.good _ (List.getElem_mem _)
  have h1 := codeT_size hg
  have h2 := names_small _ (h.names _ hx)
  rw [tree_code h hk]
  omega

/-- Codes in order, with good names, of up to 60 headings: what is left to check is that parents are there. -/
structure Half (ls : List (List Nat)) (hs : List Head) : Prop where
  sorted : Sorted ls
  good : ∀ x ∈ ls, GoodN x
  codes : hs.map (·.1) = texts ls
  names : ∀ h ∈ hs, nameB h.2 = true
  len : hs.length ≤ 60

theorem half_len {ls : List (List Nat)} {hs : List Head} (h : Half ls hs) : hs.length = ls.length := by
  have := congrArg List.length h.codes
  rwa [List.length_map, texts_len] at this

theorem half_code {ls : List (List Nat)} {hs : List Head} (h : Half ls hs) {k : Nat} (hk : k < hs.length) : hs[k].1 = codeT (ls[k]'(by rw [← half_len h]; exact hk)) := by
  have h1 : (hs.map (·.1))[k]'(by simpa using hk) = hs[k].1 := by simp
  have h2 : (texts ls)[k]'(by rw [texts_len, ← half_len h]; exact hk) = codeT (ls[k]'(by rw [← half_len h]; exact hk)) := by simp [texts]
  rw [← h1, ← h2]
  congr 1
  exact h.codes

theorem half_has {ls : List (List Nat)} {hs : List Head} (h : Half ls hs) {p : List Nat} (hp : GoodN p) : hasHeadB hs (codeT p) = decide (p ∈ ls) := by
  unfold hasHeadB
  rw [isCodeB_codeT hp, Bool.true_and, Bool.eq_iff_iff, decide_eq_true_eq, List.any_eq_true]
  constructor
  · rintro ⟨x, hx, e⟩
    have e1 : x.1 = codeT p := of_decide_eq_true e
    have : x.1 ∈ texts ls := by rw [← h.codes]; exact List.mem_map.2 ⟨x, hx, rfl⟩
    obtain ⟨q, hq, e2⟩ := List.mem_map.1 this
    rw [codeT_inj hp (h.good q hq) (by rw [← e1, e2])]
    exact hq
  · intro hm
    have : codeT p ∈ hs.map (·.1) := by rw [h.codes]; exact List.mem_map.2 ⟨p, hm, rfl⟩
    obtain ⟨x, hx, e⟩ := List.mem_map.1 this
    exact ⟨x, hx, decide_eq_true e⟩

theorem half_parent {ls : List (List Nat)} {hs : List Head} (h : Half ls hs) {p : List Nat} (hp : GoodN p) : hasParentB hs (codeT p) = decide (2 ≤ p.length → p.dropLast ∈ ls) := by
  unfold hasParentB
  rw [parentB_codeT hp]
  by_cases h2 : 2 ≤ p.length
  · have hg : GoodN p.dropLast := ⟨fun e => by have := congrArg List.length e; simp at this; omega, by have := hp.2.1; simp; omega, fun n hn => hp.2.2 n ((List.dropLast_sublist p).subset hn)⟩
    rw [half_has h hg, decide_eq_false (codeT_ne hg), Bool.false_or, decide_eq_decide]
    exact ⟨fun x _ => x, fun x => x h2⟩
  · have : p.dropLast = [] := by
      apply List.length_eq_zero_iff.1
      rw [List.length_dropLast]; omega
    rw [this, codeT_nil, decide_eq_true rfl, Bool.true_or, decide_eq_true (fun h => absurd h h2)]

theorem half_fault {ls : List (List Nat)} {hs : List Head} (h : Half ls hs) {i : Nat} (hi : i < hs.length) : headFault hs i = if hasParentB hs hs[i].1 = false then 6 else 0 := by
  have hil : i < ls.length := by rw [← half_len h]; exact hi
  have hg : GoodN ls[i] := h.good _ (List.getElem_mem _)
  have hn := h.names hs[i] (List.getElem_mem hi)
  have hc := half_code h hi
  unfold headFault
  rw [List.getElem?_eq_getElem hi]
  simp only
  rw [hn, hc, isCodeB_codeT hg, if_neg (by decide), if_neg (by decide), if_neg]
  rintro ⟨h0, h1⟩
  have hi1 : i - 1 < hs.length := by omega
  have hil1 : i - 1 < ls.length := by omega
  rw [codeAt_eq hi1, half_code h hi1, cmpCode_codeT (h.good _ (List.getElem_mem _)) hg] at h1
  have := List.pairwise_iff_getElem.1 h.sorted (i - 1) i hil1 hil (by omega)
  unfold cmpN at this
  omega

theorem faultOf_cases {hs : List Head} (hn : ¬ 60 < hs.length) : (faultOf hs = (0, 0) ∧ ∀ i, i < hs.length → headFault hs i = 0) ∨ ∃ k, k < hs.length ∧ headFault hs k ≠ 0 ∧ faultOf hs = ((k : Int) + 1, headFault hs k) := by
  unfold faultOf
  rw [if_neg hn]
  cases hf : (List.range hs.length).find? (fun i => decide (headFault hs i ≠ 0)) with
  | none =>
    refine Or.inl ⟨rfl, fun i hi => ?_⟩
    have := List.find?_eq_none.1 hf i (List.mem_range.2 hi)
    simpa using this
  | some k =>
    have h1 := List.mem_of_find?_eq_some hf
    have h2 := List.find?_some hf
    exact Or.inr ⟨k, List.mem_range.1 h1, by simpa using h2, rfl⟩

theorem half_valid {ls : List (List Nat)} {hs : List Head} (h : Half ls hs) : ((faultOf hs).2 = 0 ↔ ∀ p ∈ ls, 2 ≤ p.length → p.dropLast ∈ ls) ∧ ((∀ p ∈ ls, 2 ≤ p.length → p.dropLast ∈ ls) → faultOf hs = (0, 0)) := by
  have hn : ¬ 60 < hs.length := by have := h.len; omega
  have hall : (∀ p ∈ ls, 2 ≤ p.length → p.dropLast ∈ ls) → ∀ i, i < hs.length → headFault hs i = 0 := fun hp i hi => by
    have hil : i < ls.length := by rw [← half_len h]; exact hi
    rw [half_fault h hi, half_code h hi, half_parent h (h.good _ (List.getElem_mem _)), if_neg]
    rw [decide_eq_true (hp _ (List.getElem_mem hil))]
    decide
  refine ⟨⟨fun h0 => ?_, fun hp => by rw [faultOf_none hn (hall hp)]⟩, fun hp => faultOf_none hn (hall hp)⟩
  rcases faultOf_cases hn with ⟨_, h1⟩ | ⟨k, _, h1, h2⟩
  · intro p hp
    obtain ⟨i, hi, rfl⟩ := List.getElem_of_mem hp
    have hih : i < hs.length := by rw [half_len h]; exact hi
    have := h1 i hih
    rw [half_fault h hih, half_code h hih, half_parent h (h.good _ (List.getElem_mem _))] at this
    by_cases hd : 2 ≤ ls[i].length → ls[i].dropLast ∈ ls
    · exact hd
    · rw [decide_eq_false hd, if_pos rfl] at this
      exact absurd this (by decide)
  · rw [h2] at h0
    exact absurd h0 h1

theorem tree_half {n : Nat} {ls : List (List Nat)} {hs : List Head} (h : TreeHs n ls hs) (hn : n ≤ 55) : Half ls hs :=
  ⟨h.ok.sorted, h.ok.good, h.codes, fun x hx => names_ok _ (h.names x hx), by have := h.len; rw [tree_len h]; omega⟩

theorem tree_valid {n : Nat} {ls : List (List Nat)} {hs : List Head} (h : TreeHs n ls hs) (hn : n ≤ 55) : faultOf hs = (0, 0) := (half_valid (tree_half h hn)).2 h.ok.up

theorem map_erase {α β : Type} (f : α → β) : ∀ (l : List α) (k : Nat), (l.eraseIdx k).map f = (l.map f).eraseIdx k
  | [], _ => by simp
  | x :: l, 0 => rfl
  | x :: l, k + 1 => by simp [map_erase f l k]

/-- A list without heading k. -/
theorem less_half {ls : List (List Nat)} {hs : List Head} (h : Half ls hs) (k : Nat) : Half (ls.eraseIdx k) (hs.eraseIdx k) := by
  refine ⟨h.sorted.sublist (List.eraseIdx_sublist ls k), fun x hx => h.good x (List.mem_of_mem_eraseIdx hx), ?_, fun x hx => h.names x (List.mem_of_mem_eraseIdx hx), ?_⟩
  · have := congrArg (fun l => l.eraseIdx k) h.codes
    simp only [texts] at this ⊢
    rw [map_erase, map_erase]
    exact this
  · have := List.length_eraseIdx_le hs k
    have := h.len
    omega

theorem less_law {n : Nat} {ls : List (List Nat)} {hs : List Head} (h : TreeHs n ls hs) (hn : n ≤ 55) {k : Nat} (hk : k < hs.length) : (faultOf (hs.eraseIdx k)).2 = 0 ↔ childrenOf hs hs[k].1 = [] := by
  have hl := tree_len h
  have hkl : k < ls.length := by omega
  have hg : GoodN ls[k] := h.ok.good _ (List.getElem_mem _)
  rw [(half_valid (less_half (tree_half h hn) k)).1, tree_code h hk, childrenOf_tree h.ok.good h.codes (Or.inl hg)]
  have hme : ∀ x, x ∈ ls.eraseIdx k ↔ x ∈ ls ∧ x ≠ ls[k] := fun x => by
    rw [List.mem_eraseIdx_iff_getElem]
    constructor
    · rintro ⟨i, hi, hne, rfl⟩
      refine ⟨List.getElem_mem _, fun e => ?_⟩
      have hp := List.pairwise_iff_getElem.1 h.ok.sorted
      rcases Nat.lt_or_gt_of_ne hne with h1 | h1
      · have := hp i k hi hkl h1
        rw [e] at this
        exact cmpN_irrefl _ this
      · have := hp k i hkl hi h1
        rw [e] at this
        exact cmpN_irrefl _ this
    · rintro ⟨hx, hne⟩
      obtain ⟨i, hi, rfl⟩ := List.getElem_of_mem hx
      exact ⟨i, hi, fun e => hne (by subst e; rfl), rfl⟩
  constructor
  · intro hall
    unfold texts kids
    rw [List.map_eq_nil_iff, List.filter_eq_nil_iff]
    intro y hy
    simp only [decide_eq_true_eq]
    intro e
    have hy2 : 2 ≤ y.length := by
      have := congrArg List.length e
      rw [List.length_dropLast] at this
      have := List.length_pos_iff.2 hg.1
      omega
    have hne : y ≠ ls[k] := fun e2 => by
      have := congrArg List.length e
      rw [List.length_dropLast, e2] at this
      have := List.length_pos_iff.2 hg.1
      omega
    have := hall y ((hme y).2 ⟨hy, hne⟩) hy2
    rw [e] at this
    exact ((hme _).1 this).2 rfl
  · intro hk0 p hp h2
    obtain ⟨hp1, hp2⟩ := (hme p).1 hp
    refine (hme _).2 ⟨h.ok.up p hp1 h2, fun e => ?_⟩
    unfold texts at hk0
    have := List.map_eq_nil_iff.1 hk0
    have hm : p ∈ kids ls ls[k] := mem_kids.2 ⟨hp1, e⟩
    rw [this] at hm
    exact absurd hm (by simp)

end Go.Proofs.YtionnohajnnfmaaGreatDoor
