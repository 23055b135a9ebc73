/- Appends of a whole slice, empty or not, onto a row of the call's own; of no function of the program; no condition. -/
import Derived.Test.YtoccnindkimjdaaMG1
import Derived.Maps.AppendAt
import Derived.Lib.AppendZeros
import Derived.Deep.Upon
set_option linter.unusedSimpArgs false
set_option linter.unusedVariables false
set_option linter.unusedSimpArgs false
set_option linter.unusedVariables false
namespace Go.Proofs.Ytoccnindkimjdaa
open Go.RowKit Go.Lib Go.Proofs

/-- An append of a whole slice, empty or not, onto a row of the call's own. -/
theorem run_append_ownO {P : Program} (w : World) (base : Nat) (t ty e : TypeId) (i : TypeInfo) (z : Value) (size bytes : Nat) (ht : P.underlying t = some (.slice e)) (hi : P.info? e = some i) (hz : i.zero = some z)
    (hsize : i.size = size) (hby : i.bytes = bytes) (hzs : z.cells.size = size) (hsz : 0 < size)
    (v : Value) (n : Nat) (xs : List Value) (hown : w.ownsRow base e size v n xs)
    (ao : Option Addr) (m c : Nat) (news : List Value) (hl : news.length = m * size) (hnews : m = 0 ∨ ∃ ad : Addr, ao = some ad ∧ ∀ j u, news[j]? = some u → w.cell? (ad.add j) = some u) (h1 : ∀ u ∈ news, u.oneCell' = true)
    (h63 : n + m ≤ maxLen) (hbytes : (n + m) * bytes ≤ 140737488355328) (hbase : base ≤ w.heap.size) :
    ∃ v' w', (Builtin.append_ #[t, t] ty #[v, .slice ao m c]).run P w = .ok v' w' ∧ w'.ownsRow base e size v' (n + m) (xs ++ news) ∧ w.grownBy w' v.ownBlock := by
  by_cases hm : m = 0
  · subst hm
    have hnl : news = [] := List.length_eq_zero_iff.1 (by omega)
    subst hnl
    obtain ⟨a', cap, rfl, hle, _⟩ := owns_gen hown
    refine ⟨_, w, run_append_nothing w t t ty e i ht hi a' n cap hle (.slice ao 0 c) ?_, by simpa using hown, grownBy_refl w _⟩
    cases ao with
    | none => exact Src.ofNil w ht c
    | some a => exact Src.ofSlice w ht a 0 c [] (by simp) (by simp) (by simp)
  · obtain ⟨ad, rfl, hc⟩ := hnews.resolve_left hm
    obtain ⟨v', w', hr, h2, h3, _⟩ := run_append_own_at (P := P) w base t ty e i z size bytes ht hi hz hsize hby hzs hsz v n xs hown ad m c news hl hc h1 h63 hbytes hbase
    exact ⟨v', w', hr, h2, h3⟩

theorem wpList_ownO {P : Program} (w : World) {ops : Array Oper} {rest : List Oper} {o : Oper} {a : Act} {Q : Exit → Act → World → Prop} (hw : Region.wanted o (yielded ops a.tmps) = true) (s x : Operand) (t : TypeId)
    (ho : o.op = .call { callee := .builtin .append, args := #[s, x], argTypes := #[t, t] })
    (base : Nat) (e : TypeId) (i : TypeInfo) (z : Value) (size bytes : Nat) (ht : P.underlying t = some (.slice e)) (hi : P.info? e = some i) (hz : i.zero = some z)
    (hsize : i.size = size) (hby : i.bytes = bytes) (hzs : z.cells.size = size) (hsz : 0 < size)
    (v : Value) (n : Nat) (xs : List Value) (hs : a.eval s = v) (hown : w.ownsRow base e size v n xs)
    (ao : Option Addr) (m c : Nat) (news : List Value) (hx : a.eval x = .slice ao m c) (hl : news.length = m * size) (hnews : m = 0 ∨ ∃ ad : Addr, ao = some ad ∧ ∀ j u, news[j]? = some u → w.cell? (ad.add j) = some u) (h1 : ∀ u ∈ news, u.oneCell' = true)
    (h63 : n + m ≤ maxLen) (hbytes : (n + m) * bytes ≤ 140737488355328) (hbase : base ≤ w.heap.size)
    (h : ∀ v' w', w'.ownsRow base e size v' (n + m) (xs ++ news) → w.grownBy w' v.ownBlock → wpList P ops Q rest (a.put o.dst v') w') :
    wpList P ops Q (o :: rest) a w :=
  wpList_step fun K hK => by
    rw [if_pos hw]
    obtain ⟨v', w', hr, h2, h3⟩ := run_append_ownO (P := P) w base t o.type e i z size bytes ht hi hz hsize hby hzs hsz v n xs hown ao m c news hl hnews h1 h63 hbytes hbase
    unfold Oper.wp execOp
    simp only [ho, resolve, invoke, builtin, Sem.run_bind, Sem.run_pure, Result.andThen_ok, List.map_toArray, List.map_cons, List.map_nil, hs, hx, hr]
    exact hK _ _ (h v' w' h2 h3)

/-- What a list's slice brings to an append. -/
theorem ListAt.news {α : Type} {f : α → List Value} {m : Nat} (hf : Fields f m) {w : World} {v : Value} {l : List α} (h : ListAt f m w v l) : ∃ ao cap, v = .slice ao l.length cap ∧ (l.length = 0 ∨ ∃ ad : Addr, ao = some ad ∧ ∀ j u, (cellsL f l)[j]? = some u → w.cell? (ad.add j) = some u) := by
  obtain ⟨ao, cap, rfl, hcap, hc⟩ := h.shape hf
  refine ⟨ao, cap, rfl, ?_⟩
  by_cases h0 : l.length = 0
  · exact Or.inl h0
  · obtain ⟨b, o, rfl, hb, hcc⟩ := hc (by omega)
    refine Or.inr ⟨_, rfl, fun j u hj => ?_⟩
    rw [Addr.add_lit]
    have hm : 0 < m := hf.pos
    have hj2 : j < l.length * m := by have := (List.getElem?_eq_some_iff.1 hj).1; rw [cellsL_len hf] at this; exact this
    have hd : j / m < l.length := Nat.div_lt_of_lt_mul (by rw [Nat.mul_comm]; exact hj2)
    have hr : j % m < m := Nat.mod_lt _ hm
    have he : j / m * m + j % m = j := by rw [Nat.mul_comm]; exact Nat.div_add_mod j m
    have h2 := hcc (j / m) hd (j % m) hr
    have h3 := cellsL_get hf l (j / m) (j % m) hd hr
    rw [he] at h3
    rw [show o + j = o + j / m * m + j % m by omega, h2, ← h3, hj]

theorem newsOf {α : Type} {f : α → List Value} {m : Nat} (hf : Fields f m) {w : World} {ao : Option Addr} {n c : Nat} {l : List α} (h : ListAt f m w (.slice ao n c) l) : n = 0 ∨ ∃ ad : Addr, ao = some ad ∧ ∀ j u, (cellsL f l)[j]? = some u → w.cell? (ad.add j) = some u := by
  obtain ⟨ao', c', he, hh⟩ := h.news hf
  simp only [Value.slice.injEq] at he
  obtain ⟨rfl, rfl, rfl⟩ := he
  exact hh

end Go.Proofs.Ytoccnindkimjdaa
