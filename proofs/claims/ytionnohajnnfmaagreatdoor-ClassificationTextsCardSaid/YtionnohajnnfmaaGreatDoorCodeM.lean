/- Plain mathematics of codes: the text of a code, its numbers and its parent, the order of codes and who lies under whom; of no function of the program; no condition. -/
import Derived.Test.YtionnohajnnfmaaGreatDoorClTree
namespace Go.Proofs.YtionnohajnnfmaaGreatDoor
open Go.RowKit Go.Lib Go.Proofs

/-- From one to four numbers from 1 to 99. -/
def GoodN (ns : List Nat) : Prop := ns ≠ [] ∧ ns.length ≤ 4 ∧ ∀ n ∈ ns, 1 ≤ n ∧ n ≤ 99

/-- The text of some numbers. -/
def codeT (ns : List Nat) : ByteArray := txt (joinL 46 (ns.map decDigits))

theorem no_point {n : Nat} (h : n ≤ 99) : (46 : UInt8) ∉ decDigits n := fun hm => by
  have := dec_digits n (by omega) 46 hm
  revert this; decide

theorem numsB_digits : ∀ (ns : List Nat), (∀ n ∈ ns, 1 ≤ n ∧ n ≤ 99) → numsB ((ns.map decDigits).map txt) = some ns
  | [], _ => rfl
  | n :: ns, h => by
    have h1 := h n (by simp)
    have h2 : numW (decDigits n) = some n := numW_some.2 ⟨h1, rfl⟩
    have ih := numsB_digits ns fun m hm => h m (by simp [hm])
    simp only [List.map_cons, numsB, txt_list, h2, ih]

theorem words_codeT {ns : List Nat} (h : GoodN ns) : wordsL 46 (codeT ns).data.toList = ns.map decDigits := by
  unfold codeT
  rw [txt_list]
  refine words_join 46 _ (by simpa using h.1) fun w hw => ?_
  obtain ⟨n, hn, rfl⟩ := List.mem_map.1 hw
  exact no_point (h.2.2 n hn).2

theorem partsN_codeT {ns : List Nat} (h : GoodN ns) : partsN (codeT ns) = ns := by
  unfold partsN wordsB
  rw [words_codeT h, numsB_digits ns h.2.2]
  exact if_pos h.2.1

theorem numsB_inv : ∀ {l : List (List UInt8)} {vs : List Nat}, numsB (l.map txt) = some vs → l = vs.map decDigits ∧ ∀ n ∈ vs, 1 ≤ n ∧ n ≤ 99
  | [], vs, h => by simp [numsB] at h; subst h; simp
  | x :: l, vs, h => by
    simp only [List.map_cons, numsB, txt_list] at h
    cases hx : numW x with
    | none => rw [hx] at h; cases h
    | some v =>
      cases hl : numsB (l.map txt) with
      | none => rw [hx, hl] at h; cases h
      | some us =>
        rw [hx, hl] at h
        injection h with h
        subst h
        obtain ⟨h1, h2⟩ := numsB_inv hl
        obtain ⟨h3, h4⟩ := numW_some.1 hx
        refine ⟨by rw [List.map_cons, h4, ← h1], fun n hn => ?_⟩
        rcases List.mem_cons.1 hn with rfl | hn
        · exact h3
        · exact h2 n hn

theorem partsN_inv {s : ByteArray} (h : partsN s ≠ []) : GoodN (partsN s) ∧ s = codeT (partsN s) := by
  have hd : ∃ vs, numsB (wordsB 46 s) = some vs ∧ vs.length ≤ 4 ∧ partsN s = vs := by
    unfold partsN at h ⊢
    cases hn : numsB (wordsB 46 s) with
    | none => rw [hn] at h; exact absurd rfl h
    | some vs =>
      rw [hn] at h
      by_cases hl : vs.length ≤ 4
      · exact ⟨vs, rfl, hl, if_pos hl⟩
      · exact absurd (if_neg hl) h
  obtain ⟨vs, h1, h2, h3⟩ := hd
  obtain ⟨h4, h5⟩ := numsB_inv h1
  rw [h3] at h ⊢
  refine ⟨⟨h, h2, h5⟩, ?_⟩
  unfold codeT
  rw [← h4, joinL_words, txt_back]

theorem isCodeB_codeT {ns : List Nat} (h : GoodN ns) : isCodeB (codeT ns) = true := by
  unfold isCodeB
  rw [partsN_codeT h]
  exact decide_eq_true h.1

theorem isCodeB_inv {s : ByteArray} (h : isCodeB s = true) : ∃ ns, GoodN ns ∧ s = codeT ns := by
  unfold isCodeB at h
  exact ⟨_, partsN_inv (of_decide_eq_true h)⟩

theorem codeT_inj {a b : List Nat} (ha : GoodN a) (hb : GoodN b) (h : codeT a = codeT b) : a = b := by
  rw [← partsN_codeT ha, h, partsN_codeT hb]

theorem codeT_size {ns : List Nat} (h : GoodN ns) : (codeT ns).size ≤ 11 := by
  obtain ⟨h1, h2, h3⟩ := h
  have hl : ∀ n ∈ ns, (decDigits n).length ≤ 2 := fun n hn => by
    have := h3 n hn
    by_cases h10 : n < 10
    · rw [dec_one n h10]; simp
    · rw [dec_two n (by omega) (by omega)]; simp
  unfold codeT
  rw [txt_size]
  match ns, h1, h2, hl with
  | [a], _, _, hl => have := hl a (by simp); simp [joinL]; omega
  | [a, b], _, _, hl => have := hl a (by simp); have := hl b (by simp); simp [joinL]; omega
  | [a, b, c], _, _, hl => have := hl a (by simp); have := hl b (by simp); have := hl c (by simp); simp [joinL]; omega
  | [a, b, c, d], _, _, hl => have := hl a (by simp); have := hl b (by simp); have := hl c (by simp); have := hl d (by simp); simp [joinL]; omega
  | _ :: _ :: _ :: _ :: _ :: _, _, h2, _ => simp at h2

theorem joinL_snoc (c : UInt8) (x : List UInt8) : ∀ (l : List (List UInt8)), l ≠ [] → joinL c (l ++ [x]) = joinL c l ++ c :: x
  | [], h => absurd rfl h
  | [a], _ => rfl
  | a :: b :: t, _ => by
    have ih := joinL_snoc c x (b :: t) (by simp)
    show a ++ c :: joinL c ((b :: t) ++ [x]) = (a ++ c :: joinL c (b :: t)) ++ c :: x
    rw [ih]; simp

/-- Where the last point of a text stands. -/
theorem last_point {s : ByteArray} {a d : List UInt8} (hs : s.data.toList = a ++ 46 :: d) (hd : (46 : UInt8) ∉ d) : lastIndexByte s 46 = a.length := by
  have hsz : s.size = a.length + 1 + d.length := by rw [size_list, hs]; simp; omega
  have hget : ∀ j, j < s.size → s.data[j]! = (s.data.toList.getD j 0) := fun j hj => by
    have : j < s.data.size := hj
    rw [getElem!_pos s.data j this]
    simp [List.getD, Array.getElem?_eq_getElem this]
  rcases lastIndexByte_spec s 46 with ⟨_, h⟩ | ⟨i, hi, h1, h2, h3⟩
  · have := h a.length (by omega)
    rw [hget _ (by omega), hs] at this
    simp [List.getD] at this
  · rw [h1]
    by_cases hlt : i < a.length
    · have := h3 a.length hlt (by omega)
      rw [hget _ (by omega), hs] at this
      simp [List.getD] at this
    · by_cases hgt : a.length < i
      · exfalso
        rw [hget i hi, hs] at h2
        have e : (a ++ 46 :: d).getD i 0 = d.getD (i - a.length - 1) 0 := by
          simp only [List.getD]
          rw [List.getElem?_append_right (by omega), show i - a.length = (i - a.length - 1) + 1 by omega, List.getElem?_cons_succ]
          simp
        rw [e] at h2
        have hl : i - a.length - 1 < d.length := by omega
        rw [List.getD, List.getElem?_eq_getElem hl] at h2
        simp only [Option.getD_some] at h2
        have : d[i - a.length - 1] = 46 := UInt8.toNat_inj.1 (by have e46 : (46 : UInt8).toNat = 46 := rfl; omega)
        exact hd (this ▸ List.getElem_mem hl)
      · omega

theorem no_point_at {s : ByteArray} (h : (46 : UInt8) ∉ s.data.toList) : lastIndexByte s 46 = -1 := by
  rcases lastIndexByte_spec s 46 with ⟨h1, _⟩ | ⟨i, hi, h1, h2, h3⟩
  · exact h1
  · exfalso
    have hl : i < s.data.size := hi
    rw [getElem!_pos s.data i hl] at h2
    have : s.data[i] = 46 := UInt8.toNat_inj.1 (by have e46 : (46 : UInt8).toNat = 46 := rfl; omega)
    exact h (this ▸ by simp)

theorem parentB_codeT {ns : List Nat} (h : GoodN ns) : parentB (codeT ns) = codeT ns.dropLast := by
  obtain ⟨h1, h2, h3⟩ := h
  obtain ⟨x, hx⟩ : ∃ x, ns = ns.dropLast ++ [x] := ⟨ns.getLast h1, (List.dropLast_concat_getLast h1).symm⟩
  generalize hl : ns.dropLast = l at hx ⊢
  clear hl
  subst hx
  have hx99 := (h3 x (by simp)).2
  unfold parentB
  by_cases hnil : l = []
  · subst hnil
    have hno : (46 : UInt8) ∉ (codeT [x]).data.toList := by
      unfold codeT
      rw [txt_list]
      exact no_point hx99
    show (codeT [x]).extract 0 (lastIndexByte (codeT [x]) 46).toNat = _
    rw [no_point_at hno, extract_front]
    rfl
  · have hdata : (codeT (l ++ [x])).data.toList = joinL 46 (l.map decDigits) ++ 46 :: decDigits x := by
      unfold codeT
      rw [txt_list, List.map_append]
      exact joinL_snoc 46 _ _ (by simpa using hnil)
    rw [last_point hdata (no_point hx99), extract_front, hdata]
    unfold codeT
    rw [Int.toNat_natCast, List.take_left]

theorem codeT_nil : codeT [] = ⟨#[]⟩ := rfl
theorem codeT_ne {ns : List Nat} (h : GoodN ns) : codeT ns ≠ ⟨#[]⟩ := fun e => by
  have := partsN_codeT h
  rw [e] at this
  have h0 : partsN ⟨#[]⟩ = [] := by
    unfold partsN wordsB
    have : numW ([] : List UInt8) = none := by
      cases hn : numW ([] : List UInt8) with
      | none => rfl
      | some v =>
        have := (numW_some.1 hn)
        have hl : (decDigits v).length = 0 := by rw [this.2]; rfl
        by_cases h10 : v < 10
        · rw [dec_one v h10] at hl; simp at hl
        · rw [dec_two v (by omega) (by omega)] at hl; simp at hl
    simp [wordsL, numsB, txt_list, this]
  rw [h0] at this
  exact h.1 this.symm

theorem partsN_empty : partsN ⟨#[]⟩ = [] := by
  by_cases h : partsN ⟨#[]⟩ = []
  · exact h
  · obtain ⟨h1, h2⟩ := partsN_inv h
    exact absurd h2.symm (codeT_ne h1)

theorem cmpCode_codeT {a b : List Nat} (ha : GoodN a) (hb : GoodN b) : cmpCode (codeT a) (codeT b) = cmpL (asInts a) (asInts b) := by
  unfold cmpCode
  rw [partsN_codeT ha, partsN_codeT hb, if_neg (fun h => ha.1 h.1)]

theorem underB_codeT {a b : List Nat} (ha : GoodN a) (hb : GoodN b) : underB (codeT a) (codeT b) = true ↔ b <+: a := by
  rw [underB_iff, partsN_codeT ha, partsN_codeT hb]
  exact ⟨fun h => h.2, fun h => ⟨hb.1, h⟩⟩

theorem coversB_codeT {a b : List Nat} (ha : GoodN a) (hb : GoodN b) : coversB (codeT b) (codeT a) = decide (b <+: a) := by
  unfold coversB
  rw [decide_eq_false (codeT_ne hb), Bool.false_or, Bool.eq_iff_iff, underB_codeT ha hb]
  simp
theorem coversB_all (a : ByteArray) : coversB ⟨#[]⟩ a = true := by simp [coversB]

theorem asInts_inj {x y : List Nat} (h : asInts x = asInts y) : x = y := by
  have := congrArg (List.map Int.toNat) h
  simpa [asInts, Function.comp_def] using this

end Go.Proofs.YtionnohajnnfmaaGreatDoor
