/- A map from numbers to numbers that the call has made, read as a function: the laws of make, store, look-up; for keys from 100 to 599. -/
import Derived.Test.YtoccnindkimjdaaMG1
import Derived.Maps.OwnSet
import Derived.Maps.Views
import Derived.Maps.OwnOps
import Derived.Maps.RangeWalk
set_option linter.unusedSimpArgs false
set_option linter.unusedVariables false
namespace Go.Proofs.Ytoccnindkimjdaa
open Go.RowKit Go.Lib Go.Proofs Go.Maps

theorem wf64 {x : Int} (h0 : -9223372036854775808 ≤ x) (h1 : x ≤ 9223372036854775807) : (Lit.int .i64 x).wf = true := WalkArith.wf_i64 (by omega)
theorem keyZ {x : Int} (h0 : -9223372036854775808 ≤ x) (h1 : x ≤ 9223372036854775807) : keyOf Try.prog 3 (.int .i64 x) = some (.int .i64 x) := keyOf_int_mk Try.underlying3 (wf64 h0 h1)
theorem keyLitZ (x : Int) : WideAt.IsKeyLit (.int .i64 x) := by simp [WideAt.IsKeyLit]
theorem litZ_ne {x y : Int} (h : x ≠ y) : Lit.int .i64 x ≠ Lit.int .i64 y := fun e => h (by injection e)
theorem Try.zeroZ (w : World) : (zeroValue 3).run Try.prog w = .ok (.int .i64 0) w := by kernel_rfl

/-- Block b is a map of at most n entries that answers g, with the keys K. -/
def MapZ (w : World) (b n : Nat) (g : Int → Int) (K : Int → Bool) : Prop :=
  ∃ D : DataW Unit, w.ownsMap Try.prog 3 (plainElem Try.prog 3) b n D ∧ (∀ x : Int, D.atKey (.int .i64 x) (.lit (.int .i64 0)) = .lit (.int .i64 (g x))) ∧ ∀ x : Int, Maps.has D (.int .i64 x) = K x
theorem MapZ.lt {w : World} {b n : Nat} {g : Int → Int} {K : Int → Bool} (h : MapZ w b n g K) : b < w.heap.size := by obtain ⟨D, h1, _⟩ := h; exact h1.lt
theorem MapZ.kept {w w' : World} {b n : Nat} {g : Int → Int} {K : Int → Bool} {row : Option Nat} (h : MapZ w b n g K) (hg : w.grownBy w' row) (hne : some b ≠ row) : MapZ w' b n g K := by
  obtain ⟨D, h1, h2⟩ := h; exact ⟨D, h1.kept hg hne, h2⟩
theorem MapZ.below {w w' : World} {b n : Nat} {g : Int → Int} {K : Int → Bool} (h : MapZ w b n g K) (hb : Below w.heap.size w w') : MapZ w' b n g K := h.kept (grownBy_below (row := none) hb) (by simp)
theorem MapZ.made (w : World) : MapZ (w.alloc (.map #[] 0)) w.heap.size 0 (fun _ => 0) (fun _ => false) :=
  ⟨.map [], World.ownsMap_made w _ _ _, fun _ => rfl, fun _ => rfl⟩
theorem MapZ.congr {w : World} {b n : Nat} {f g : Int → Int} {K L : Int → Bool} (h : MapZ w b n f K) (hfg : ∀ x, f x = g x) (hk : ∀ x, K x = L x) : MapZ w b n g L := by
  obtain ⟨D, h1, h2, h3⟩ := h; exact ⟨D, h1, fun x => by rw [h2, hfg], fun x => by rw [h3, hk]⟩

theorem wpList_store_Z {w : World} {ops : Array Oper} {rest : List Oper} {o : Oper} {a : Act} {Q : Exit → Act → World → Prop}
    (hg : o.guard = none) (m x v : Operand) (hop : o.op = Op.mapUpdate 97 m x v) (b n : Nat) (g : Int → Int) (K : Int → Bool) (hm : a.eval m = .map (some b)) (hown : MapZ w b n g K) (hn : n < maxLen)
    (k y : Int) (hx : a.eval x = .int .i64 k) (hv : a.eval v = .int .i64 y) (hk0 : -9223372036854775808 ≤ k) (hk1 : k ≤ 9223372036854775807) (hy0 : -9223372036854775808 ≤ y) (hy1 : y ≤ 9223372036854775807)
    (hK : ∀ w', MapZ w' b (n + 1) (fun t => if t = k then y else g t) (fun t => decide (t = k) || K t) → w.grownBy w' (some b) → wpList Try.prog ops Q rest (a.put o.dst undef) w') :
    wpList Try.prog ops Q (o :: rest) a w := by
  obtain ⟨D, h1, h2, h3⟩ := hown
  have hD := h1.isMap
  refine wpList_mapUpdate_own w hg m x v _ hop _ _ (int_keyed Try.underlying3) Try.underlying97 _ b n D hm h1 hn _ _ _ hx hv (keyZ hk0 hk1) _ [] (plainElem_int Try.underlying3 (wf64 hy0 hy1)) fun w' g1 g2 => ?_
  refine hK w' ⟨_, g1, fun t => ?_, fun t => ?_⟩ g2
  · show _ = DataW.lit (Lit.int .i64 (if t = k then _ else g t))
    by_cases ht : t = k
    · subst ht
      rw [atKey_put_same hD (keyLitZ t), if_pos rfl]
    · rw [atKey_put_other (litZ_ne ht), h2, if_neg ht]
  · by_cases ht : t = k
    · subst ht
      rw [has_put_same hD (keyLitZ t)]; simp
    · rw [has_put_other (litZ_ne ht), h3]; simp [ht]

/-- The look-up at the operation. -/
theorem wpList_look_Z {w : World} {ops : Array Oper} {rest : List Oper} {o : Oper} {a : Act} {Q : Exit → Act → World → Prop}
    (hg : o.guard = none) (m x : Operand) (hop : o.op = Op.lookup 97 m x false) (b n : Nat) (g : Int → Int) (K : Int → Bool) (hm : a.eval m = .map (some b)) (hown : MapZ w b n g K)
    (k : Int) (hx : a.eval x = .int .i64 k) (hk0 : -9223372036854775808 ≤ k) (hk1 : k ≤ 9223372036854775807)
    (hK : wpList Try.prog ops Q rest (a.put o.dst (.int .i64 (g k))) w) :
    wpList Try.prog ops Q (o :: rest) a w := by
  obtain ⟨D, h1, h2, h3⟩ := hown
  refine wpList_lookup_own_int w hg m x 97 hop _ _ .i64 (int_keyed Try.underlying3) Try.underlying97 Try.underlying3 (Try.zeroZ w) b n D hm h1 _ _ hx (keyZ hk0 hk1) fun c hc _ => ?_
  have hcg : c = g k := by
    have e := hc.symm.trans (h2 k)
    simp only [DataW.lit.injEq, Lit.int.injEq, true_and] at e
    exact e
  rw [hcg]
  exact hK

end Go.Proofs.Ytoccnindkimjdaa
