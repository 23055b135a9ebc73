/- What the leaves of the made classifications are: those under the children, or the code itself; for all that Tree makes. -/
import Derived.Test.YtionnohajnnfmaaGreatDoorKidsM
import Derived.Test.YtionnohajnnfmaaGreatDoorTree
import Derived.Test.YtionnohajnnfmaaGreatDoorTexts
import Derived.Test.YtionnohajnnfmaaGreatDoorClChildren
import Derived.Test.YtionnohajnnfmaaGreatDoorClAwake
namespace Go.Proofs.YtionnohajnnfmaaGreatDoor
open Go.RowKit Go.Lib Go.Proofs

theorem names_size : ∀ s ∈ treeNames, s.size ≤ 1000000 := by decide

theorem tree_heads {n : Nat} {ls : List (List Nat)} {hs : List Head} (h : TreeHs n ls hs) : HeadsOk hs := fun x hx => by
  refine ⟨?_, names_size _ (h.names x hx)⟩
  have hm : x.1 ∈ texts ls := by rw [← h.codes]; exact List.mem_map.2 ⟨x, hx, rfl⟩
  obtain ⟨y, hy, e⟩ := List.mem_map.1 hm
  rw [← e]
  have := codeT_size (h.ok.good y hy)
  omega

theorem tree_len {n : Nat} {ls : List (List Nat)} {hs : List Head} (h : TreeHs n ls hs) : hs.length = ls.length := by
  have := congrArg List.length h.codes
  rwa [List.length_map, texts_len] at this

theorem tree_code {n : Nat} {ls : List (List Nat)} {hs : List Head} (h : TreeHs n ls hs) {k : Nat} (hk : k < hs.length) : hs[k].1 = codeT (ls[k]'(by rw [← tree_len h]; exact hk)) := by
  have h1 : (hs.map (·.1))[k]'(by simpa using hk) = hs[k].1 := by simp
  have h2 : (texts ls)[k]'(by rw [texts_len, ← tree_len h]; exact hk) = codeT (ls[k]'(by rw [← tree_len h]; exact hk)) := by simp [texts]
  rw [← h1, ← h2]
  congr 1
  exact h.codes

theorem flatMap_ext {α β : Type} {f g : α → List β} : ∀ {l : List α}, (∀ x ∈ l, f x = g x) → l.flatMap f = l.flatMap g
  | [], _ => rfl
  | x :: l, h => by
    rw [List.flatMap_cons, List.flatMap_cons, h x (by simp), flatMap_ext fun y hy => h y (List.mem_cons_of_mem _ hy)]

/-- The concatenation of the leaves under each of the codes. -/
def flat (hs : List Head) (cs : List ByteArray) : List ByteArray := cs.flatMap (leavesOf hs)

theorem flat_snoc (hs : List Head) {cs : List ByteArray} {k : Nat} (hk : k < cs.length) : flat hs (cs.take (k + 1)) = flat hs (cs.take k) ++ leavesOf hs cs[k] := by
  unfold flat
  rw [List.take_succ_eq_append_getElem hk, List.flatMap_append]
  simp

theorem flat_len (hs : List Head) (cs : List ByteArray) : (flat hs cs).length ≤ cs.length * hs.length := by
  unfold flat
  induction cs with
  | nil => simp
  | cons c cs ih =>
    rw [List.flatMap_cons, List.length_append, List.length_cons, Nat.succ_mul]
    have h1 : (leavesOf hs c).length ≤ hs.length := by
      unfold leavesOf
      exact Nat.le_trans (List.length_filter_le _ _) (codesOf_len hs)
    omega

theorem flat_tree {n : Nat} {ls : List (List Nat)} {hs : List Head} (h : TreeHs n ls hs) {x : List Nat} (hx : GoodN x ∨ x = []) : flat hs (childrenOf hs (codeT x)) = texts ((kids ls x).flatMap (lvs ls)) := by
  rw [childrenOf_tree h.ok.good h.codes hx, texts_flat]
  unfold flat texts
  rw [List.flatMap_map]
  exact flatMap_ext fun c hc => leavesOf_tree h.ok.good h.codes (h.ok.good c (mem_kids.1 hc).1)

theorem child_ne {n : Nat} {ls : List (List Nat)} {hs : List Head} (h : TreeHs n ls hs) {x : List Nat} (hx : GoodN x ∨ x = []) : ∀ c ∈ childrenOf hs (codeT x), 0 < (leavesOf hs c).length ∧ c.size ≤ 1000000 := by
  intro c hc
  rw [childrenOf_tree h.ok.good h.codes hx] at hc
  obtain ⟨y, hy, rfl⟩ := List.mem_map.1 hc
  have hy1 := (mem_kids.1 hy).1
  refine ⟨?_, by have := codeT_size (h.ok.good y hy1); omega⟩
  rw [leavesOf_tree h.ok.good h.codes (h.ok.good y hy1), texts_len]
  exact List.length_pos_iff.2 (lvs_ne h.ok hy1)

theorem leaves_law {n : Nat} {ls : List (List Nat)} {hs : List Head} (h : TreeHs n ls hs) {k : Nat} (hk : k < hs.length) :
    leavesOf hs hs[k].1 = if flat hs (childrenOf hs hs[k].1) = [] then [hs[k].1] else flat hs (childrenOf hs hs[k].1) := by
  have hm : ls[k]'(by rw [← tree_len h]; exact hk) ∈ ls := List.getElem_mem _
  rw [tree_code h hk]
  generalize ls[k]'(by rw [← tree_len h]; exact hk) = x at *
  have hx := h.ok.good x hm
  rw [flat_tree h (Or.inl hx), leavesOf_tree h.ok.good h.codes hx, leaves_under h.ok hm]
  by_cases he : (kids ls x).flatMap (lvs ls) = []
  · rw [he]; simp [texts]
  · rw [if_neg he, if_neg]
    intro e
    exact he (by simpa [texts] using e)

theorem leaves_law_all {n : Nat} {ls : List (List Nat)} {hs : List Head} (h : TreeHs n ls hs) : flat hs (childrenOf hs ⟨#[]⟩) = leavesOf hs ⟨#[]⟩ := by
  have e : (⟨#[]⟩ : ByteArray) = codeT [] := rfl
  rw [leavesOf_all h.ok.good h.codes, ← leaves_all h.ok, e, flat_tree h (Or.inr rfl)]

end Go.Proofs.YtionnohajnnfmaaGreatDoor
