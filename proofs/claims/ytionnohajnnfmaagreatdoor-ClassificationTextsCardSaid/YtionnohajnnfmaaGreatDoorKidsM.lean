/- Plain mathematics of classifications: children and leaves; the leaves under a code are those under its children, or the code itself; of no function of the program; no condition. -/
import Derived.Test.YtionnohajnnfmaaGreatDoorTreeM
import Derived.Test.YtionnohajnnfmaaGreatDoorClLeaves
namespace Go.Proofs.YtionnohajnnfmaaGreatDoor
open Go.RowKit Go.Lib Go.Proofs

/-- The codes of which x is the parent. -/
def kids (ls : List (List Nat)) (x : List Nat) : List (List Nat) := ls.filter fun y => decide (y.dropLast = x)
/-- A code is the parent of none. -/
def leafN (ls : List (List Nat)) (y : List Nat) : Bool := !(ls.any fun z => decide (z.dropLast = y))
/-- The leaves that lie under x. -/
def lvs (ls : List (List Nat)) (x : List Nat) : List (List Nat) := ls.filter fun y => leafN ls y && decide (x <+: y)

theorem mem_kids {ls : List (List Nat)} {x y : List Nat} : y ∈ kids ls x ↔ y ∈ ls ∧ y.dropLast = x := by simp [kids]
theorem leafN_iff {ls : List (List Nat)} {y : List Nat} : leafN ls y = true ↔ ∀ z ∈ ls, z.dropLast ≠ y := by
  unfold leafN
  rw [Bool.not_eq_true', List.any_eq_false]
  simp
theorem mem_lvs {ls : List (List Nat)} {x y : List Nat} : y ∈ lvs ls x ↔ y ∈ ls ∧ leafN ls y = true ∧ x <+: y := by simp [lvs]

abbrev Sorted (l : List (List Nat)) : Prop := l.Pairwise fun a b => cmpN a b < 0

theorem cmpN_irrefl (a : List Nat) : ¬ cmpN a a < 0 := by rw [cmpN_zero.2 rfl]; decide

/-- Two lists in order with the same members are the same. -/
theorem sorted_ext : ∀ {a b : List (List Nat)}, Sorted a → Sorted b → (∀ x, x ∈ a ↔ x ∈ b) → a = b
  | [], [], _, _, _ => rfl
  | [], y :: b, _, _, h => absurd ((h y).2 (by simp)) (by simp)
  | x :: a, [], _, _, h => absurd ((h x).1 (by simp)) (by simp)
  | x :: a, y :: b, ha, hb, h => by
    obtain ⟨a1, a2⟩ := List.pairwise_cons.1 ha
    obtain ⟨b1, b2⟩ := List.pairwise_cons.1 hb
    have hxy : x = y := by
      rcases List.mem_cons.1 ((h x).1 (by simp)) with e | hx
      · exact e
      · rcases List.mem_cons.1 ((h y).2 (by simp)) with e | hy
        · exact e.symm
        · exact absurd (cmpN_trans (b1 x hx) (a1 y hy)) (cmpN_irrefl y)
    subst hxy
    congr 1
    refine sorted_ext a2 b2 fun z => ⟨fun hz => ?_, fun hz => ?_⟩
    · rcases List.mem_cons.1 ((h z).1 (List.mem_cons_of_mem _ hz)) with e | hz'
      · subst e; exact absurd (a1 z hz) (cmpN_irrefl z)
      · exact hz'
    · rcases List.mem_cons.1 ((h z).2 (List.mem_cons_of_mem _ hz)) with e | hz'
      · subst e; exact absurd (b1 z hz) (cmpN_irrefl z)
      · exact hz'

theorem TreeOk.take {ls : List (List Nat)} (h : TreeOk ls) {y : List Nat} (hy : y ∈ ls) : ∀ (d k : Nat), y.length = k + d → 1 ≤ k → y.take k ∈ ls
  | 0, k, hd, _ => by rw [List.take_of_length_le (by omega)]; exact hy
  | d + 1, k, hd, hk => by
    have h1 := h.take hy d (k + 1) (by omega) (by omega)
    have h2 := h.up _ h1 (by rw [List.length_take]; omega)
    rw [List.dropLast_eq_take, List.length_take, List.take_take] at h2
    rwa [show min (min (k + 1) y.length - 1) (k + 1) = k by omega] at h2

theorem sorted_filter {l : List (List Nat)} (h : Sorted l) (p : List Nat → Bool) : Sorted (l.filter p) := h.filter p

theorem dropLast_snoc {y x : List Nat} (h : y.dropLast = x) (hy : y ≠ []) : ∃ a, y = x ++ [a] := ⟨y.getLast hy, by rw [← h]; exact (List.dropLast_concat_getLast hy).symm⟩

/-- What lies under the lesser of two children comes before what lies under the other one. -/
theorem cmpN_under {x s t : List Nat} {a b : Nat} (h : cmpN (x ++ [a]) (x ++ [b]) < 0) : cmpN (x ++ [a] ++ s) (x ++ [b] ++ t) < 0 := by
  unfold cmpN at h ⊢
  induction x with
  | nil =>
    simp only [asInts, List.nil_append, List.map_cons, List.map_nil, List.cons_append, cmpL] at h ⊢
    by_cases h1 : (a : Int) < b
    · rw [if_pos h1]; decide
    · rw [if_neg h1] at h
      by_cases h2 : (b : Int) < a
      · rw [if_pos h2] at h; exact absurd h (by decide)
      · rw [if_neg h2] at h; exact absurd h (by decide)
  | cons c x ih =>
    simp only [asInts, List.map_cons, List.cons_append, cmpL] at h ih ⊢
    rw [if_neg (Int.lt_irrefl _), if_neg (Int.lt_irrefl _)] at h ⊢
    exact ih h

theorem flat_sorted (ls : List (List Nat)) (x : List Nat) (hls : Sorted ls) (hg : ∀ y ∈ ls, y ≠ []) : Sorted ((kids ls x).flatMap (lvs ls)) := by
  have hk : Sorted (kids ls x) := sorted_filter hls _
  have hm : ∀ c ∈ kids ls x, ∃ a, c = x ++ [a] := fun c hc => by
    obtain ⟨h1, h2⟩ := mem_kids.1 hc
    exact dropLast_snoc h2 (hg c h1)
  generalize kids ls x = ks at *
  induction ks with
  | nil => exact List.Pairwise.nil
  | cons c ks ih =>
    obtain ⟨k1, k2⟩ := List.pairwise_cons.1 hk
    rw [List.flatMap_cons]
    refine List.pairwise_append.2 ⟨sorted_filter hls _, ih k2 fun d hd => hm d (List.mem_cons_of_mem _ hd), fun y hy z hz => ?_⟩
    obtain ⟨d, hd, hz⟩ := List.mem_flatMap.1 hz
    obtain ⟨_, _, s, rfl⟩ := mem_lvs.1 hy
    obtain ⟨_, _, t, rfl⟩ := mem_lvs.1 hz
    obtain ⟨a, rfl⟩ := hm c (by simp)
    obtain ⟨b, rfl⟩ := hm d (List.mem_cons_of_mem _ hd)
    exact cmpN_under (k1 _ hd)

theorem mem_flat {ls : List (List Nat)} (h : TreeOk ls) {x y : List Nat} : y ∈ (kids ls x).flatMap (lvs ls) ↔ y ∈ ls ∧ leafN ls y = true ∧ x <+: y ∧ x ≠ y := by
  rw [List.mem_flatMap]
  constructor
  · rintro ⟨c, hc, hy⟩
    obtain ⟨c1, c2⟩ := mem_kids.1 hc
    obtain ⟨y1, y2, y3⟩ := mem_lvs.1 hy
    obtain ⟨a, rfl⟩ := dropLast_snoc c2 (h.good c c1).1
    have hp : x <+: y := (List.prefix_append x [a]).trans y3
    refine ⟨y1, y2, hp, fun e => ?_⟩
    subst e
    have := y3.length_le
    simp at this
    omega
  · rintro ⟨y1, y2, y3, y4⟩
    have hlen : x.length < y.length := by
      rcases Nat.lt_or_ge x.length y.length with h | h
      · exact h
      · exact absurd (y3.eq_of_length (Nat.le_antisymm y3.length_le h)) y4
    have ht := h.take y1 (y.length - (x.length + 1)) (x.length + 1) (by omega) (by omega)
    refine ⟨y.take (x.length + 1), mem_kids.2 ⟨ht, ?_⟩, mem_lvs.2 ⟨y1, y2, List.take_prefix _ _⟩⟩
    rw [List.dropLast_eq_take, List.length_take, List.take_take, show min (min (x.length + 1) y.length - 1) (x.length + 1) = x.length by omega]
    exact (List.prefix_iff_eq_take.1 y3).symm

theorem has_leaf {ls : List (List Nat)} (h : TreeOk ls) : ∀ (d : Nat) (c : List Nat), c ∈ ls → 4 ≤ c.length + d → ∃ y, y ∈ lvs ls c
  | 0, c, hc, hd => by
    refine ⟨c, mem_lvs.2 ⟨hc, leafN_iff.2 fun z hz e => ?_, List.prefix_refl _⟩⟩
    have := (h.good z hz).2.1
    have := (h.good z hz).1
    have hl : z.length = c.length + 1 := by
      rw [← e, List.length_dropLast]
      have := List.length_pos_iff.2 (h.good z hz).1
      omega
    omega
  | d + 1, c, hc, hd => by
    by_cases hl : leafN ls c = true
    · exact ⟨c, mem_lvs.2 ⟨hc, hl, List.prefix_refl _⟩⟩
    · have : ∃ z ∈ ls, z.dropLast = c := by
        rw [leafN_iff] at hl
        by_cases hx : ∃ z ∈ ls, z.dropLast = c
        · exact hx
        · exact absurd (fun z hz e => hx ⟨z, hz, e⟩) hl
      obtain ⟨z, hz, e⟩ := this
      obtain ⟨a, rfl⟩ := dropLast_snoc e (h.good z hz).1
      obtain ⟨y, hy⟩ := has_leaf h d (c ++ [a]) hz (by simp; omega)
      obtain ⟨y1, y2, y3⟩ := mem_lvs.1 hy
      exact ⟨y, mem_lvs.2 ⟨y1, y2, (List.prefix_append c [a]).trans y3⟩⟩

theorem lvs_ne {ls : List (List Nat)} (h : TreeOk ls) {c : List Nat} (hc : c ∈ ls) : lvs ls c ≠ [] := fun e => by
  obtain ⟨y, hy⟩ := has_leaf h 4 c hc (by omega)
  rw [e] at hy; cases hy

theorem leaves_under {ls : List (List Nat)} (h : TreeOk ls) {x : List Nat} (hx : x ∈ ls) : lvs ls x = if (kids ls x).flatMap (lvs ls) = [] then [x] else (kids ls x).flatMap (lvs ls) := by
  have hg : ∀ y ∈ ls, y ≠ [] := fun y hy => (h.good y hy).1
  by_cases hl : leafN ls x = true
  · have hk : kids ls x = [] := by
      rw [List.eq_nil_iff_forall_not_mem]
      intro y hy
      obtain ⟨h1, h2⟩ := mem_kids.1 hy
      exact leafN_iff.1 hl y h1 h2
    rw [hk, List.flatMap_nil, if_pos rfl]
    refine sorted_ext (sorted_filter h.sorted _) (List.pairwise_singleton _ _) fun y => ?_
    rw [mem_lvs, List.mem_singleton]
    constructor
    · rintro ⟨y1, y2, y3⟩
      by_cases e : y = x
      · exact e
      · have := (mem_flat h (x := x) (y := y)).2 ⟨y1, y2, y3, fun e' => e e'.symm⟩
        rw [hk] at this; cases this
    · rintro rfl
      exact ⟨hx, hl, List.prefix_refl _⟩
  · have heq : (kids ls x).flatMap (lvs ls) = lvs ls x := by
      refine sorted_ext (flat_sorted ls x h.sorted hg) (sorted_filter h.sorted _) fun y => ?_
      rw [mem_flat h, mem_lvs]
      constructor
      · rintro ⟨a, b, c, _⟩; exact ⟨a, b, c⟩
      · rintro ⟨a, b, c⟩
        exact ⟨a, b, c, fun e => hl (e ▸ b)⟩
    rw [heq, if_neg (lvs_ne h hx)]

theorem leaves_all {ls : List (List Nat)} (h : TreeOk ls) : (kids ls []).flatMap (lvs ls) = ls.filter (leafN ls) := by
  have hg : ∀ y ∈ ls, y ≠ [] := fun y hy => (h.good y hy).1
  refine sorted_ext (flat_sorted ls [] h.sorted hg) (sorted_filter h.sorted _) fun y => ?_
  rw [mem_flat h, List.mem_filter]
  constructor
  · rintro ⟨a, b, _, _⟩; exact ⟨a, b⟩
  · rintro ⟨a, b⟩
    exact ⟨a, b, List.nil_prefix, fun e => hg y a e.symm⟩

/-! ### The same of texts -/

theorem codesOf_tree {ls : List (List Nat)} {hs : List Head} (h : ∀ x ∈ ls, GoodN x) (hc : hs.map (·.1) = texts ls) : codesOf hs = texts ls := by
  unfold codesOf
  rw [hc]
  refine List.filter_eq_self.2 fun c hc => ?_
  obtain ⟨x, hx, rfl⟩ := List.mem_map.1 hc
  exact isCodeB_codeT (h x hx)

theorem codeT_eq_iff {x y : List Nat} (hx : GoodN x ∨ x = []) (hy : GoodN y ∨ y = []) : codeT x = codeT y ↔ x = y := by
  constructor
  · intro h
    rcases hx with hx | rfl <;> rcases hy with hy | rfl
    · exact codeT_inj hx hy h
    · exact absurd h (codeT_ne hx)
    · exact absurd h.symm (codeT_ne hy)
    · rfl
  · intro h; rw [h]

theorem good_drop {x : List Nat} (h : GoodN x) : GoodN x.dropLast ∨ x.dropLast = [] := by
  by_cases e : x.dropLast = []
  · exact Or.inr e
  · exact Or.inl ⟨e, by rw [List.length_dropLast]; have := h.2.1; omega, fun n hn => h.2.2 n (List.dropLast_subset _ hn)⟩

theorem texts_filter {ls : List (List Nat)} (p : ByteArray → Bool) (q : List Nat → Bool) (h : ∀ x ∈ ls, p (codeT x) = q x) : (texts ls).filter p = texts (ls.filter q) := by
  unfold texts
  rw [List.filter_map]
  congr 1
  exact List.filter_congr fun x hx => h x hx

theorem childrenOf_tree {ls : List (List Nat)} {hs : List Head} (h : ∀ x ∈ ls, GoodN x) (hc : hs.map (·.1) = texts ls) {x : List Nat} (hx : GoodN x ∨ x = []) : childrenOf hs (codeT x) = texts (kids ls x) := by
  unfold childrenOf kids
  rw [codesOf_tree h hc]
  refine texts_filter _ _ fun y hy => ?_
  rw [parentB_codeT (h y hy), Bool.not_not]
  rw [decide_eq_decide]
  exact codeT_eq_iff (good_drop (h y hy)) hx

theorem leftB_tree {ls : List (List Nat)} (h : ∀ x ∈ ls, GoodN x) {y : List Nat} (hy : y ∈ ls) : leftB (texts ls) (codeT y) = leafN ls y := by
  unfold leftB
  have h1 : hasB (codeT y) (texts ls) = true := hasB_iff.2 (List.mem_map.2 ⟨y, hy, rfl⟩)
  rw [h1, Bool.true_and]
  unfold leafN
  congr 1
  unfold hasB texts
  rw [List.map_map, List.any_map]
  rw [Bool.eq_iff_iff, List.any_eq_true, List.any_eq_true]
  constructor
  · rintro ⟨z, hz, he⟩
    refine ⟨z, hz, decide_eq_true ?_⟩
    have := of_decide_eq_true he
    simp only [Function.comp_apply] at this
    rw [parentB_codeT (h z hz)] at this
    exact (codeT_eq_iff (good_drop (h z hz)) (Or.inl (h y hy))).1 this
  · rintro ⟨z, hz, he⟩
    refine ⟨z, hz, decide_eq_true ?_⟩
    simp only [Function.comp_apply]
    rw [parentB_codeT (h z hz), of_decide_eq_true he]

theorem leavesOf_tree {ls : List (List Nat)} {hs : List Head} (h : ∀ x ∈ ls, GoodN x) (hc : hs.map (·.1) = texts ls) {x : List Nat} (hx : GoodN x) : leavesOf hs (codeT x) = texts (lvs ls x) := by
  unfold leavesOf lvs
  rw [codesOf_tree h hc]
  refine texts_filter _ _ fun y hy => ?_
  rw [leftB_tree h hy, coversB_codeT (h y hy) hx]
  cases leafN ls y <;> cases decide (x <+: y) <;> rfl

theorem leavesOf_all {ls : List (List Nat)} {hs : List Head} (h : ∀ x ∈ ls, GoodN x) (hc : hs.map (·.1) = texts ls) : leavesOf hs ⟨#[]⟩ = texts (ls.filter (leafN ls)) := by
  unfold leavesOf
  rw [codesOf_tree h hc]
  refine texts_filter _ _ fun y hy => ?_
  rw [leftB_tree h hy, coversB_all]
  cases leafN ls y <;> rfl

theorem texts_flat (f : List Nat → List (List Nat)) (l : List (List Nat)) : texts (l.flatMap f) = l.flatMap fun x => texts (f x) := by
  unfold texts
  rw [List.map_flatMap]

theorem sorted_nodup {l : List (List Nat)} (h : Sorted l) : l.Nodup := h.imp fun {a b} hab e => by subst e; exact cmpN_irrefl a hab

end Go.Proofs.YtionnohajnnfmaaGreatDoor
