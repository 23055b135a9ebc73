/- Plain mathematics of reading a code byte by byte, as the reference does; of no function of the program; no condition. -/
import Derived.Test.YtionnohajnnfmaaGreatDoorCodeM
namespace Go.Proofs.YtionnohajnnfmaaGreatDoor
open Go.RowKit Go.Lib Go.Proofs

/-- The number that some digits write. -/
def dval (l : List UInt8) : Nat := l.foldl (fun a c => 10 * a + (c.toNat - 48)) 0
theorem dval_snoc (l : List UInt8) (c : UInt8) : dval (l ++ [c]) = 10 * dval l + (c.toNat - 48) := by simp [dval]

theorem dval_acc : ∀ (l : List UInt8) (a : Nat), (∀ c ∈ l, digitB c = true) → l.foldl (fun a c => 10 * a + (c.toNat - 48)) a < (a + 1) * 10 ^ l.length
  | [], a, _ => by simp
  | c :: l, a, h => by
    have h2 := h c (by simp)
    unfold digitB at h2
    have h2 := of_decide_eq_true h2
    have ih := dval_acc l (10 * a + (c.toNat - 48)) fun x hx => h x (by simp [hx])
    rw [List.foldl_cons, List.length_cons, Nat.pow_succ]
    have h3 : (10 * a + (c.toNat - 48) + 1) * 10 ^ l.length ≤ (10 * (a + 1)) * 10 ^ l.length := Nat.mul_le_mul_right _ (by omega)
    have h4 : (10 * (a + 1)) * 10 ^ l.length = (a + 1) * (10 ^ l.length * 10) := by rw [Nat.mul_comm 10 (a + 1), Nat.mul_assoc, Nat.mul_comm 10]
    omega
theorem dval_lt (l : List UInt8) (h : ∀ c ∈ l, digitB c = true) : dval l < 10 ^ l.length := by
  have := dval_acc l 0 h
  simpa [dval] using this

/-- Every word of a text, each with a point behind it. -/
def pointed (ws : List (List UInt8)) : List UInt8 := ws.flatMap (· ++ [46])
theorem pointed_snoc (ws : List (List UInt8)) (x : List UInt8) : pointed (ws ++ [x]) = pointed ws ++ x ++ [46] := by simp [pointed]

theorem wordsL_pointed : ∀ (ws : List (List UInt8)) (t : List UInt8), (∀ w ∈ ws, (46 : UInt8) ∉ w) → wordsL 46 (pointed ws ++ t) = ws ++ wordsL 46 t
  | [], t, _ => rfl
  | a :: ws, t, h => by
    have : pointed (a :: ws) ++ t = a ++ 46 :: (pointed ws ++ t) := by simp [pointed]
    rw [this, wordsL_app (h a (by simp)), wordsL_pointed ws t fun w hw => h w (by simp [hw])]
    rfl

theorem numsB_no_point {ws : List (List UInt8)} {vs : List Nat} (h : numsB (ws.map txt) = some vs) : ∀ w ∈ ws, (46 : UInt8) ∉ w := by
  obtain ⟨h1, h2⟩ := numsB_inv h
  intro w hw
  rw [h1] at hw
  obtain ⟨n, hn, rfl⟩ := List.mem_map.1 hw
  exact no_point (h2 n hn).2

theorem digit_cases {c : UInt8} (h : digitB c = true) : ∃ d : Nat, d < 10 ∧ c = UInt8.ofNat (48 + d) ∧ c.toNat = 48 + d := by
  unfold digitB at h
  have h := of_decide_eq_true h
  refine ⟨c.toNat - 48, by omega, ?_, by omega⟩
  apply UInt8.toNat_inj.1
  rw [show 48 + (c.toNat - 48) = c.toNat by omega]
  simp

/-- A word of digits is a number from 1 to 99 just where it has one or two, and the first one is not 0. -/
theorem numW_digits {l : List UInt8} (h : ∀ c ∈ l, digitB c = true) (h0 : 1 ≤ l.length) (h2 : l.length ≤ 2) (hz : l.getD 0 0 ≠ 48) : numW l = some (dval l) := by
  refine numW_some.2 ?_
  match l, h, h0, h2, hz with
  | [a], h, _, _, hz =>
    obtain ⟨d, hd, rfl, hv⟩ := digit_cases (h a (by simp))
    have hne : d ≠ 0 := fun e => hz (by subst e; rfl)
    have hval : dval [UInt8.ofNat (48 + d)] = d := by simp only [dval, List.foldl_cons, List.foldl_nil, hv]; omega
    rw [hval]
    exact ⟨by omega, dec_one d hd⟩
  | [a, b], h, _, _, hz =>
    obtain ⟨d, hd, rfl, hv⟩ := digit_cases (h a (by simp))
    obtain ⟨e, he, rfl, hw⟩ := digit_cases (h b (by simp))
    have hne : d ≠ 0 := fun e => hz (by subst e; rfl)
    have hval : dval [UInt8.ofNat (48 + d), UInt8.ofNat (48 + e)] = 10 * d + e := by simp only [dval, List.foldl_cons, List.foldl_nil, hv, hw]; omega
    rw [hval]
    refine ⟨by omega, ?_⟩
    rw [dec_two _ (by omega) (by omega), show (10 * d + e) / 10 = d by omega, show (10 * d + e) % 10 = e by omega]

theorem numW_shape {l : List UInt8} {v : Nat} (h : numW l = some v) : 1 ≤ l.length ∧ l.length ≤ 2 ∧ l.getD 0 0 ≠ 48 ∧ ∀ c ∈ l, digitB c = true := by
  obtain ⟨h1, rfl⟩ := numW_some.1 h
  refine ⟨?_, ?_, ?_, dec_digits v (by omega)⟩
  · by_cases h10 : v < 10
    · rw [dec_one v h10]; simp
    · rw [dec_two v (by omega) (by omega)]; simp
  · by_cases h10 : v < 10
    · rw [dec_one v h10]; simp
    · rw [dec_two v (by omega) (by omega)]; simp
  · intro e
    by_cases h10 : v < 10
    · rw [dec_one v h10] at e
      have := congrArg UInt8.toNat e
      simp only [List.getD_cons_zero, ofNat_toNat v (by omega)] at this
      have e48 : (48 : UInt8).toNat = 48 := rfl
      omega
    · rw [dec_two v (by omega) (by omega)] at e
      have := congrArg UInt8.toNat e
      simp only [List.getD_cons_zero, ofNat_toNat (v / 10) (by omega)] at this
      have e48 : (48 : UInt8).toNat = 48 := rfl
      omega

/-- What has been read ahead of byte i: whole words with their numbers, and the digits of the next one. -/
structure ReadTo (D : List UInt8) (i : Nat) (out : List Nat) (n g : Nat) : Prop where
  le : i ≤ D.length
  got : ∃ ws cur, D.take i = pointed ws ++ cur ∧ numsB (ws.map txt) = some out ∧ (∀ c ∈ cur, digitB c = true) ∧ n = dval cur ∧ g = cur.length

theorem ReadTo.start (D : List UInt8) : ReadTo D 0 [] 0 0 := ⟨Nat.zero_le _, [], [], rfl, rfl, by simp, rfl, rfl⟩

theorem ReadTo.bounds {D : List UInt8} {i : Nat} {out : List Nat} {n g : Nat} (h : ReadTo D i out n g) : g ≤ i ∧ n < 10 ^ g ∧ out.length ≤ i ∧ ∀ (_ : 1 ≤ g) (hi : i - g < D.length), ∃ ws cur, D.take i = pointed ws ++ cur ∧ g = cur.length ∧ D[i - g] = cur.getD 0 0 := by
  obtain ⟨hle, ws, cur, h1, h2, h3, rfl, rfl⟩ := h
  have hlen := congrArg List.length h1
  rw [List.length_take, Nat.min_eq_left hle, List.length_append] at hlen
  refine ⟨by omega, dval_lt cur h3, ?_, fun hg hi => ⟨ws, cur, h1, rfl, ?_⟩⟩
  · have := numsB_length h2
    have hp : ws.length ≤ (pointed ws).length := by
      clear h1 h2 this hlen
      induction ws with
      | nil => simp
      | cons a t ih => simp [pointed] at ih ⊢; omega
    rw [this, List.length_map]; omega
  · have hx : (D.take i)[i - cur.length]? = some D[i - cur.length] := by
      rw [List.getElem?_take, if_pos (by omega), List.getElem?_eq_getElem hi]
    rw [h1, List.getElem?_append_right (by omega), show i - cur.length - (pointed ws).length = 0 by omega] at hx
    rw [List.getD, hx]; rfl

/-- A digit more. -/
theorem ReadTo.digit {D : List UInt8} {i : Nat} {out : List Nat} {n g : Nat} (h : ReadTo D i out n g) (hi : i < D.length) (hd : digitB D[i] = true) : ReadTo D (i + 1) out (10 * n + (D[i].toNat - 48)) (g + 1) := by
  obtain ⟨hle, ws, cur, h1, h2, h3, rfl, rfl⟩ := h
  refine ⟨hi, ws, cur ++ [D[i]], ?_, h2, ?_, (dval_snoc _ _).symm, by simp⟩
  · rw [List.take_succ_eq_append_getElem hi, h1, List.append_assoc]
  · intro c hc
    rcases List.mem_append.1 hc with hc | hc
    · exact h3 c hc
    · rw [List.mem_singleton.1 hc]; exact hd

theorem numsB_snocL {ws : List (List UInt8)} {out : List Nat} {cur : List UInt8} {v : Nat} (h : numsB (ws.map txt) = some out) (hc : numW cur = some v) : numsB ((ws ++ [cur]).map txt) = some (out ++ [v]) := by
  rw [List.map_append, List.map_cons, List.map_nil, numsB_snoc, h, txt_list, hc]

/-- A point behind a word that is a number. -/
theorem ReadTo.point {D : List UInt8} {i : Nat} {out : List Nat} {n g : Nat} (h : ReadTo D i out n g) (hi : i < D.length) (hp : D[i] = 46) (h1 : 1 ≤ g) (h2 : g ≤ 2) (hz : D[i - g]'(by omega) ≠ 48) : ReadTo D (i + 1) (out ++ [n]) 0 0 := by
  have hb := h.bounds.2.2.2 h1 (by omega)
  obtain ⟨hle, ws, cur, e1, e2, e3, rfl, rfl⟩ := h
  obtain ⟨ws', cur', f1, f2, f3⟩ := hb
  have hcur : cur' = cur := by
    rw [e1] at f1
    exact (List.append_inj_right' f1 f2.symm.symm).symm
  rw [f3, hcur] at hz
  have hn := numW_digits e3 h1 h2 hz
  exact ⟨hi, ws ++ [cur], [], by rw [List.take_succ_eq_append_getElem hi, e1, hp, pointed_snoc, List.append_nil], numsB_snocL e2 hn, by simp, rfl, rfl⟩

/-- The end behind a word that is a number. -/
theorem ReadTo.last {D : List UInt8} {out : List Nat} {n g : Nat} (h : ReadTo D D.length out n g) (h1 : 1 ≤ g) (h2 : g ≤ 2) (hg : g ≤ D.length) (hz : D[D.length - g]'(by omega) ≠ 48) : numsB ((wordsL 46 D).map txt) = some (out ++ [n]) := by
  have hb := h.bounds.2.2.2 h1 (by omega)
  obtain ⟨hle, ws, cur, e1, e2, e3, rfl, rfl⟩ := h
  obtain ⟨ws', cur', f1, f2, f3⟩ := hb
  have hcur : cur' = cur := by
    rw [e1] at f1
    exact (List.append_inj_right' f1 f2.symm.symm).symm
  rw [f3, hcur] at hz
  have hn := numW_digits e3 h1 h2 hz
  rw [List.take_length] at e1
  rw [e1, wordsL_pointed ws cur (numsB_no_point e2), wordsL_no fun hm => by have := e3 _ hm; revert this; decide]
  exact numsB_snocL e2 hn

theorem partsN_none {s : ByteArray} (h : ∀ vs, numsB ((wordsL 46 s.data.toList).map txt) ≠ some vs) : partsN s = [] := by
  unfold partsN wordsB
  cases hn : numsB ((wordsL 46 s.data.toList).map txt) with
  | none => rfl
  | some vs => exact absurd hn (h vs)

/-- A word behind some others. -/
theorem wordsL_split (D : List UInt8) : ∀ (ws : List (List UInt8)) (cur rest : List UInt8), (∀ w ∈ ws, (46 : UInt8) ∉ w) → (46 : UInt8) ∉ cur → D = pointed ws ++ (cur ++ rest) → ∃ t u, wordsL 46 D = ws ++ (cur ++ t) :: u ∧ (∀ c r, rest = c :: r → c ≠ 46 → ∃ t', t = c :: t') ∧ ((rest = [] ∨ ∃ r, rest = 46 :: r) → t = []) := by
  intro ws cur rest hw hc hD
  rw [hD, wordsL_pointed ws _ hw]
  have key : ∀ (cur : List UInt8), (46 : UInt8) ∉ cur → ∃ t u, wordsL 46 (cur ++ rest) = (cur ++ t) :: u ∧ wordsL 46 rest = t :: u := by
    intro cur hc
    induction cur with
    | nil =>
      cases hr : wordsL 46 rest with
      | nil => exact absurd hr (wordsL_ne 46 rest)
      | cons t u => exact ⟨t, u, hr, rfl⟩
    | cons x cur ih =>
      simp only [List.mem_cons, not_or] at hc
      obtain ⟨t, u, h1, h2⟩ := ih hc.2
      refine ⟨t, u, ?_, h2⟩
      rw [List.cons_append, wordsL, if_neg (fun e => hc.1 e.symm), h1]
      rfl
  obtain ⟨t, u, h1, h2⟩ := key cur hc
  refine ⟨t, u, by rw [h1], fun c r hr hne => ?_, fun h => ?_⟩
  · rw [hr, wordsL, if_neg hne] at h2
    cases hx : wordsL 46 r with
    | nil => exact absurd hx (wordsL_ne 46 r)
    | cons a b => rw [hx] at h2; injection h2 with h2 _; exact ⟨a, h2.symm⟩
  · rcases h with h | ⟨r, h⟩
    · rw [h] at h2; injection h2 with h2 _; exact h2.symm
    · rw [h, wordsL, if_pos rfl] at h2; injection h2 with h2 _; exact h2.symm

theorem numsB_mem {l : List (List UInt8)} {vs : List Nat} (h : numsB (l.map txt) = some vs) : ∀ w ∈ l, ∃ v, numW w = some v := by
  obtain ⟨h1, h2⟩ := numsB_inv h
  intro w hw
  rw [h1] at hw
  obtain ⟨n, hn, rfl⟩ := List.mem_map.1 hw
  exact ⟨n, numW_some.2 ⟨h2 n hn, rfl⟩⟩

/-- A word that ends and is no number. -/
theorem ReadTo.badWord {s : ByteArray} {i : Nat} {out : List Nat} {n g : Nat} (h : ReadTo s.data.toList i out n g) (hend : i = s.data.toList.length ∨ ∃ h : i < s.data.toList.length, s.data.toList[i] = 46)
    (hbad : g = 0 ∨ 2 < g ∨ ∃ h : i - g < s.data.toList.length, s.data.toList[i - g] = 48) : partsN s = [] := by
  have hb := h.bounds.2.2.2
  obtain ⟨hle, ws, cur, e1, e2, e3, rfl, rfl⟩ := h
  have h46 : (46 : UInt8) ∉ cur := fun hm => by have := e3 _ hm; revert this; decide
  have hD : s.data.toList = pointed ws ++ (cur ++ s.data.toList.drop i) := by rw [← List.append_assoc, ← e1, List.take_append_drop]
  obtain ⟨t, u, f1, _, f3⟩ := wordsL_split _ ws cur _ (numsB_no_point e2) h46 hD
  have ht : t = [] := f3 (by
    rcases hend with rfl | ⟨hi, hp⟩
    · exact Or.inl (List.drop_length)
    · exact Or.inr ⟨s.data.toList.drop (i + 1), by rw [List.drop_eq_getElem_cons hi, hp]⟩)
  rw [ht, List.append_nil] at f1
  refine partsN_none fun vs hvs => ?_
  obtain ⟨v, hv⟩ := numsB_mem hvs cur (by rw [f1]; simp)
  obtain ⟨g1, g2, g3, _⟩ := numW_shape hv
  rcases hbad with hb0 | hb0 | ⟨hi, hb0⟩
  · omega
  · omega
  · obtain ⟨ws', cur', k1, k2, k3⟩ := hb (by omega) hi
    have hcur : cur' = cur := by
      rw [e1] at k1
      exact (List.append_inj_right' k1 k2).symm
    rw [k3, hcur] at hb0
    exact g3 hb0

/-- A byte that is neither a digit nor a point. -/
theorem ReadTo.badByte {s : ByteArray} {i : Nat} {out : List Nat} {n g : Nat} (h : ReadTo s.data.toList i out n g) (hi : i < s.data.toList.length) (hp : s.data.toList[i] ≠ 46) (hd : digitB s.data.toList[i] = false) : partsN s = [] := by
  obtain ⟨hle, ws, cur, e1, e2, e3, rfl, rfl⟩ := h
  have h46 : (46 : UInt8) ∉ cur := fun hm => by have := e3 _ hm; revert this; decide
  have hD : s.data.toList = pointed ws ++ (cur ++ s.data.toList.drop i) := by rw [← List.append_assoc, ← e1, List.take_append_drop]
  obtain ⟨t, u, f1, f2, _⟩ := wordsL_split _ ws cur _ (numsB_no_point e2) h46 hD
  obtain ⟨t', ht⟩ := f2 s.data.toList[i] (s.data.toList.drop (i + 1)) (List.drop_eq_getElem_cons hi) hp
  refine partsN_none fun vs hvs => ?_
  obtain ⟨v, hv⟩ := numsB_mem hvs (cur ++ t) (by rw [f1]; simp)
  have := (numW_shape hv).2.2.2 s.data.toList[i] (by rw [ht]; simp)
  rw [hd] at this; cases this

theorem partsN_long {s : ByteArray} (h : 12 < s.size) : partsN s = [] := by
  by_cases hp : partsN s = []
  · exact hp
  · obtain ⟨h1, h2⟩ := partsN_inv hp
    have := codeT_size h1
    rw [← h2] at this
    omega

theorem partsN_of {s : ByteArray} {vs : List Nat} (h : numsB ((wordsL 46 s.data.toList).map txt) = some vs) : partsN s = if vs.length ≤ 4 then vs else [] := by
  unfold partsN wordsB
  rw [h]

end Go.Proofs.YtionnohajnnfmaaGreatDoor
