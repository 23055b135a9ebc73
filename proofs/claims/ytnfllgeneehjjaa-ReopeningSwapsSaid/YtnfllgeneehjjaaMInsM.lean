/- Rows in memory of the call's own: copying elements of several cells within and into them; of no function; no condition but that the cells are there. -/
import Derived.Test.YtnfllgeneehjjaaMG2
import Derived.Laws.CopyRow
import Derived.Lib.AppendZeros
import Derived.Lib.AppendZerosOnto
import Derived.Lib.Overlaps
import Derived.Laws.Externs
import Derived.Lib.JoinLaws
set_option linter.unusedSimpArgs false
set_option linter.unusedVariables false
namespace Go.Proofs.Ytnfllgeneehjjaa
open Go.RowKit Go.Lib Go.Proofs

/-- 'copy' at elements of k cells, into a block of this call. -/
theorem copy_rowK {P : Program} (w : World) (dT sT ty elem : TypeId) (k g o dLen dCap : Nat) (a : Addr) (sLen sCap : Nat) (cur : Array Value) (t : TypeId) (cs : List Value)
    (hu : P.underlying dT = some (.slice elem)) (hs : (P.info? elem).map (·.size) = some k)
    (hg : w.heap[g]? = some (.cells cur t (0, 0))) (hn : cs.length = Nat.min sLen dLen * k)
    (hsrc : ∀ j v, cs[j]? = some v → w.cell? (a.add j) = some v) (hfit : o + cs.length ≤ cur.size) (h1 : ∀ v ∈ cs, v.oneCell' = true) :
    (Builtin.copy_ #[dT, sT] ty #[.slice (some ⟨g, o, none⟩) dLen dCap, .slice (some a) sLen sCap]).run P w =
      .ok (goInt (Nat.min sLen dLen)) (w.setRow g (cur.toList.take o ++ cs ++ cur.toList.drop (o + cs.length)).toArray) := by
  have hl := run_loadCells_list (P := P) w a cs hsrc
  have hst := run_storeCells_at P g o t cs 0 cur w hg (by simpa using hfit) h1
  cases hq : P.info? elem with
  | none => simp [hq] at hs
  | some i =>
    have hi : i.size = k := by simpa [hq] using hs
    simp [Builtin.copy_, run_underlying hu, Builtin.lenOf, Builtin.firstCells, sizeOf, typeInfo, hq, hi, ← hn, hl, hst]

/-- What stands in a row behind the two copies of an insertion. -/
theorem ins_cells {cur : List Value} {n i c k : Nat} {xs x : List Value} (hcur : cur.take (n * k) = xs) (hl : cur.length = c * k) (hi : i ≤ n) (hc : n + 1 ≤ c) (hx : x.length = k) :
    let c1 := cur.take ((i + 1) * k) ++ xs.drop (i * k) ++ cur.drop ((i + 1) * k + (xs.drop (i * k)).length)
    let c2 := c1.take (i * k) ++ x ++ c1.drop (i * k + x.length)
    c2.length = c * k ∧ c2.take ((n + 1) * k) = xs.take (i * k) ++ x ++ xs.drop (i * k) := by
  have e1 : (i + 1) * k = i * k + k := by rw [Nat.add_mul, Nat.one_mul]
  have e2 : (n + 1) * k = n * k + k := by rw [Nat.add_mul, Nat.one_mul]
  have h1 : i * k ≤ n * k := Nat.mul_le_mul_right k hi
  have h2 : (n + 1) * k ≤ c * k := Nat.mul_le_mul_right k hc
  have hxl : xs.length = n * k := by rw [← hcur, List.length_take]; omega
  have hA : (cur.take ((i + 1) * k)).length = i * k + k := by rw [List.length_take]; omega
  have hd : (xs.drop (i * k)).length = n * k - i * k := by rw [List.length_drop, hxl]
  have ht : cur.take (i * k) = xs.take (i * k) := by
    rw [← hcur, List.take_take]; congr 1; omega
  intro c1 c2
  have hc1l : c1.length = c * k := by
    show (cur.take ((i + 1) * k) ++ xs.drop (i * k) ++ cur.drop ((i + 1) * k + (xs.drop (i * k)).length)).length = _
    rw [List.length_append, List.length_append, hA, hd, List.length_drop, e1, hl]; omega
  have hc1t : c1.take (i * k) = xs.take (i * k) := by
    show (cur.take ((i + 1) * k) ++ xs.drop (i * k) ++ cur.drop ((i + 1) * k + (xs.drop (i * k)).length)).take (i * k) = _
    rw [List.append_assoc, List.take_append_of_le_length (by rw [hA]; omega), List.take_take, ← ht]
    congr 1; omega
  have hc1d : c1.drop (i * k + k) = xs.drop (i * k) ++ cur.drop ((i + 1) * k + (xs.drop (i * k)).length) := by
    show (cur.take ((i + 1) * k) ++ xs.drop (i * k) ++ cur.drop ((i + 1) * k + (xs.drop (i * k)).length)).drop (i * k + k) = _
    rw [List.append_assoc, ← hA, List.drop_left]
  have hT : (xs.take (i * k)).length = i * k := by rw [List.length_take, hxl]; omega
  refine ⟨?_, ?_⟩
  · show (c1.take (i * k) ++ x ++ c1.drop (i * k + x.length)).length = _
    rw [List.length_append, List.length_append, hc1t, hT, List.length_drop, hc1l, hx]; omega
  · show (c1.take (i * k) ++ x ++ c1.drop (i * k + x.length)).take ((n + 1) * k) = _
    rw [hc1t, hx, hc1d, ← List.append_assoc]
    refine (List.take_append_of_le_length ?_).trans ?_
    · rw [List.length_append, List.length_append, hT, hx, hd, e2]; omega
    · refine List.take_of_length_le ?_
      rw [List.length_append, List.length_append, hT, hx, hd, e2]; omega

end Go.Proofs.Ytnfllgeneehjjaa
