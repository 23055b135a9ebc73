/- Plain mathematics of the greatest rests: an insertion sort that starts from the places in their order is stable, and a place's number in the order is its rank; no condition but that the places are those of the list. -/
import Derived.Sort.LotA
import Derived.Sort.WalkA
import Derived.Shelf.SlSortCmp.Kit1
namespace Go.Proofs.Ytbndcjbnpgdpjaa
open Go.Sort Go.Proofs

section congr
variable {α : Type} [Inhabited α] {lt lt2 : α → α → Bool}

theorem insInner_same (a : Nat) : ∀ (j : Nat) (d : Array α), j < d.size → (∀ k, a ≤ k → k < j → lt d[j]! d[k]! = lt2 d[j]! d[k]!) → insInner lt a j d = insInner lt2 a j d
  | 0, d, _, _ => rfl
  | j + 1, d, hj, h => by
    unfold insInner
    by_cases ha : j + 1 > a
    · have h1 : lt d[j + 1]! d[j]! = lt2 d[j + 1]! d[j]! := h j (by omega) (by omega)
      rw [h1]
      split
      · refine insInner_same a j _ (by rw [swp_size]; omega) ?_
        intro k hk hkj
        have g := swp_get d hj (show j < d.size by omega)
        rw [g, g, if_pos rfl, if_neg (by omega), if_neg (by omega)]
        exact h k hk (by omega)
      · rfl
    · have : decide (j + 1 > a) = false := decide_eq_false ha
      simp [this]

theorem mem_getElem! {d : Array α} {i : Nat} (h : i < d.size) : d[i]! = d[i] := getElem!_pos d i h

/-- What a permutation within [a, b) holds at one of these places, d held at one of them. -/
theorem PermIn.from {a b : Nat} {d d' : Array α} (h : PermIn a b d d') (hb : b ≤ d.size) (k : Nat) (hk : a ≤ k) (hkb : k < b) : ∃ q, a ≤ q ∧ q < b ∧ d'[k]! = d[q]! := by
  obtain ⟨hs, _, hp⟩ := h
  have hk' : k < d'.size := by omega
  have hm : d'[k]! ∈ (d'.extract a b).toList := by
    rw [getElem!_pos d' k hk', Array.mem_toList_iff, Array.mem_iff_getElem]
    exact ⟨k - a, by simp; omega, by simp; congr 1; omega⟩
  have := hp.subset hm
  rw [Array.mem_toList_iff, Array.mem_iff_getElem] at this
  obtain ⟨q, hq, e⟩ := this
  simp at hq
  exact ⟨a + q, by omega, by omega, by rw [getElem!_pos d (a + q) (by omega), ← e]; simp⟩

theorem insOuter_same (hS : SWO lt2) (a b : Nat) : ∀ (n i : Nat) (d d0 : Array α), b - i = n → a < i → i ≤ b → b ≤ d.size → PermIn a i d0 d → SortedIn lt2 a i d →
    (∀ p q, a ≤ p → p < q → q < b → lt d0[q]! d0[p]! = lt2 d0[q]! d0[p]!) → insOuter lt a b i d = insOuter lt2 a b i d
  | 0, i, d, d0, hn, _, hib, _, _, _, _ => by
    rw [insOuter_stop _ _ _ _ _ (by omega), insOuter_stop _ _ _ _ _ (by omega)]
  | n + 1, i, d, d0, hn, hai, hib, hb, hp, hsd, h => by
    have hib' : i < b := by omega
    rw [insOuter_go (lt := lt) a b i d hib', insOuter_go (lt := lt2) a b i d hib']
    have hsz : d.size = d0.size := hp.1
    have hi : d[i]! = d0[i]! := hp.2.1 i (Or.inr (Nat.le_refl _))
    have e : insInner lt a i d = insInner lt2 a i d := by
      refine insInner_same a i d (by omega) fun k hk hki => ?_
      obtain ⟨q, h1, h2, h3⟩ := PermIn.from hp (by omega) k hk hki
      rw [hi, h3]
      exact h q i h1 h2 (by omega)
    rw [e]
    have h1 := insInner_spec hS swp_permIn permIn_refl permIn_trans a (i + 1) i (by omega) i d (by omega) (Nat.le_refl _) (by omega) ⟨fun p q hap hpq hqi _ hq => hsd p q hap hpq (by omega), fun q h1 h2 => by omega⟩
    have hpw : PermIn a (i + 1) d0 d := by
      refine ⟨hp.1, fun k hk => hp.2.1 k (by omega), ?_⟩
      have e1 : ∀ D : Array α, i < D.size → (D.extract a (i + 1)).toList = (D.extract a i).toList ++ [D[i]!] := by
        intro D hD
        rw [getElem!_pos D i hD]
        apply List.ext_getElem
        · simp; omega
        · intro t h1 h2
          simp [List.getElem_append]
          intro hm
          have : a + t = i := by simp at h1; omega
          simp [this]
      rw [e1 d (by omega), e1 d0 (by omega), hi]
      exact List.Perm.append_right _ hp.2.2
    exact insOuter_same hS a b n (i + 1) _ d0 (by omega) (by omega) (by omega) (by rw [h1.1.1]; exact hb) (permIn_trans _ _ _ _ _ hpw h1.1) h1.2 h

/-- Where two tests agree on each later and each earlier element, an insertion sort by the one is one by the other. -/
theorem insertionSort_same (hS : SWO lt2) (d : Array α) (a b : Nat) (hb : b ≤ d.size) (h : ∀ p q, a ≤ p → p < q → q < b → lt d[q]! d[p]! = lt2 d[q]! d[p]!) :
    insertionSort lt d a b = insertionSort lt2 d a b := by
  unfold insertionSort
  by_cases hab : a + 1 ≤ b
  · refine insOuter_same hS a b (b - (a + 1)) (a + 1) d d rfl (by omega) hab hb (permIn_refl d a (a + 1)) (fun i j h1 h2 h3 => by omega) h
  · rw [insOuter_stop _ _ _ _ _ (by omega), insOuter_stop _ _ _ _ _ (by omega)]

end congr

/-- Place x stands before place y: it has the greater rest, or the same one and it is the former. -/
def bef (rs : List Int) (x y : Nat) : Bool := decide (rs.getD y 0 < rs.getD x 0 ∨ rs.getD x 0 = rs.getD y 0 ∧ x < y)

theorem bef_iff {rs : List Int} {x y : Nat} : bef rs x y = true ↔ rs.getD y 0 < rs.getD x 0 ∨ rs.getD x 0 = rs.getD y 0 ∧ x < y := by unfold bef; exact decide_eq_true_iff
theorem bef_false {rs : List Int} {x y : Nat} : bef rs x y = false ↔ ¬ (rs.getD y 0 < rs.getD x 0 ∨ rs.getD x 0 = rs.getD y 0 ∧ x < y) := by unfold bef; exact decide_eq_false_iff_not

/-- The places of n rests in the order of the rests. -/
structure IsOrder (rs : List Int) (o : List Nat) : Prop where
  perm : o.Perm (List.range rs.length)
  sorted : o.Pairwise fun x y => bef rs x y = true

/-- How many places stand before i. -/
def rank (rs : List Int) (i : Nat) : Nat := ((List.range rs.length).filter fun j => bef rs j i).length

theorem bef_irrefl (rs : List Int) (x : Nat) : bef rs x x = false := bef_false.2 (by omega)
theorem bef_asymm {rs : List Int} {x y : Nat} (h : bef rs x y = true) : bef rs y x = false := by rw [bef_iff] at h; rw [bef_false]; omega

theorem filter_take {o : List Nat} {rs : List Int} (hp : o.Pairwise fun x y => bef rs x y = true) : ∀ (k : Nat) (hk : k < o.length), o.filter (fun j => bef rs j o[k]) = o.take k := by
  induction o with
  | nil => intro k hk; simp at hk
  | cons a o ih =>
    intro k hk
    rw [List.pairwise_cons] at hp
    cases k with
    | zero =>
      simp only [List.getElem_cons_zero, List.take_zero]
      rw [List.filter_eq_nil_iff]
      intro y hy
      rcases List.mem_cons.1 hy with rfl | hy
      · rw [bef_irrefl]; exact Bool.false_ne_true
      · rw [bef_asymm (hp.1 y hy)]; exact Bool.false_ne_true
    | succ k =>
      simp only [List.getElem_cons_succ, List.take_succ_cons]
      rw [List.filter_cons_of_pos, ih hp.2 k (by simpa using hk)]
      exact hp.1 _ (List.getElem_mem _)

theorem IsOrder.rank {rs : List Int} {o : List Nat} (h : IsOrder rs o) (k : Nat) (hk : k < o.length) : rank rs o[k] = k := by
  unfold Go.Proofs.Ytbndcjbnpgdpjaa.rank
  rw [← (h.perm.filter _).length_eq, filter_take h.sorted k hk, List.length_take]
  omega

theorem IsOrder.mem_take {rs : List Int} {o : List Nat} (h : IsOrder rs o) (i left : Nat) (hi : i < rs.length) : i ∈ o.take left ↔ Go.Proofs.Ytbndcjbnpgdpjaa.rank rs i < left := by
  have hm : i ∈ o := h.perm.mem_iff.2 (List.mem_range.2 hi)
  obtain ⟨k, hk, rfl⟩ := List.mem_iff_getElem.1 hm
  rw [h.rank k hk, List.mem_take_iff_getElem]
  constructor
  · rintro ⟨j, hj, e⟩
    have hjl : j < o.length := by omega
    have := h.rank j hjl
    rw [e, h.rank k hk] at this
    omega
  · intro hl
    exact ⟨k, by omega, rfl⟩

theorem IsOrder.length {rs : List Int} {o : List Nat} (h : IsOrder rs o) : o.length = rs.length := by rw [h.perm.length_eq, List.length_range]
theorem IsOrder.lt {rs : List Int} {o : List Nat} (h : IsOrder rs o) (k : Nat) (hk : k < o.length) : o[k] < rs.length := List.mem_range.1 (h.perm.subset (List.getElem_mem hk))
theorem IsOrder.nodup {rs : List Int} {o : List Nat} (h : IsOrder rs o) : o.Nodup := h.perm.nodup_iff.2 List.nodup_range

end Go.Proofs.Ytbndcjbnpgdpjaa
