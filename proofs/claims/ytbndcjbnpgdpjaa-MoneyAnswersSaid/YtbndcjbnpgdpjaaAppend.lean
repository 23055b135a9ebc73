/- An append to a slice of the call's own leaves it in its block, or moves it to a new one; no condition but the room that Go asks. -/
import Derived.Test.YtbndcjbnpgdpjaaMParts
import Derived.ArgAppend
namespace Go.Proofs.Ytbndcjbnpgdpjaa
open Go.RowKit

theorem grownBy_row {a b : World} {r : Option Nat} (h : a.grownBy b none) : a.grownBy b r := ⟨h.os, h.tape, h.output, h.size, fun k hk _ => h.block k hk (by simp)⟩

/-- Where a slice lies behind an append: where it lay, or in a new block. -/
def Moved (w : World) (v v' : Value) : Prop := v'.ownBlock = v.ownBlock ∨ ∀ g, v'.ownBlock = some g → w.heap.size ≤ g

theorem wpList_append_moved {P : Program} (w : World) {ops : Array Oper} {rest : List Oper} {o : Oper} {a : Act} {Q : Exit → Act → World → Prop}
    (hgd : o.guard = none) (s x : Operand) (t : TypeId) (hop : o.op = Op.call { callee := Callee.builtin Builtin.append, args := #[s, x], argTypes := #[t, t] })
    (base : Nat) (e : TypeId) (i : TypeInfo) (z : Value) (size bytes : Nat) (h1 : P.underlying t = some (.slice e)) (h2 : P.info? e = some i) (h3 : i.zero = some z) (h4 : i.size = size) (h5 : i.bytes = bytes) (h6 : z.cells.size = size) (h7 : 0 < size)
    (v : Value) (n : Nat) (xs : List Value) (hs : a.eval s = v) (hown : w.ownsRow base e size v n xs)
    (ad : Addr) (m c : Nat) (news : List Value) (hx : a.eval x = .slice (some ad) m c) (hn : news.length = m * size) (hc : ∀ j u, news[j]? = some u → w.cell? (ad.add j) = some u) (h1c : ∀ u ∈ news, u.oneCell' = true) (hm : 0 < m)
    (b1 : n + m ≤ maxLen) (b2 : (n + m) * bytes ≤ 140737488355328) (hbase : base ≤ w.heap.size)
    (hK : ∀ v' w', w'.ownsRow base e size v' (n + m) (xs ++ news) → w.grownBy w' v.ownBlock → Moved w v v' → wpList P ops Q rest (a.put o.dst v') w') :
    wpList P ops Q (o :: rest) a w := by
  have hown0 := hown
  rcases hown.2 with ⟨rfl, rfl⟩ | ⟨g, cap, cur, rfl, hg, hh, hnc, hcm, hcs, htk⟩
  · have hx0 : xs = [] := by have := hown.1; simpa using this
    subst hx0
    refine wpList_append_grows w hgd s x t hop e i z size bytes h1 h2 h3 h4 h5 h6 h7 none 0 0 [] hs (fun _ => ⟨rfl, rfl⟩) (by simp) (by simp) ad m c news hx hn hc h1c (by omega) b1 b2 fun v' w' ho hgr => ?_
    exact hK v' w' (ownsRow_mono ho hbase) (grownBy_row hgr) (Or.inr fun g hg => (ho.lt g hg).1)
  · by_cases hfit : n + m ≤ cap
    · refine wpList_append_fits w hgd s x t hop base e i size h1 h2 h4 g n cap xs hs hown0 ad m c news hx hn hc h1c hfit fun w' ho hgr => ?_
      exact hK _ w' ho hgr (Or.inl rfl)
    · refine wpList_append_grows w hgd s x t hop e i z size bytes h1 h2 h3 h4 h5 h6 h7 (some ⟨g, 0, none⟩) n cap xs hs (by simp) hown0.1 (fun b hb j u hj => by cases hb; exact hown0.cells rfl j u hj) ad m c news hx hn hc h1c (by omega) b1 b2 fun v' w' ho hgr => ?_
      exact hK v' w' (ownsRow_mono ho hbase) (grownBy_row hgr) (Or.inr fun g' hg' => (ho.lt g' hg').1)

end Go.Proofs.Ytbndcjbnpgdpjaa
