/- An insertion sort at the numbering of this translation, and the order of places by their rests; no condition but that the places are those of the list. -/
import Derived.Test.YtbndcjbnpgdpjaaSortA
import Derived.Test.YtbndcjbnpgdpjaaSortM
import Derived.Test.YtbndcjbnpgdpjaaMem
import Derived.Sort.LotA
namespace Go.Proofs.Ytbndcjbnpgdpjaa
open Go.RowKit Go.Sort Go.Shelf Go.Lib Go.Proofs

section
variable {α : Type} [Inhabited α]

/-- slices.insertionSortCmpFunc at the numbering of this translation. -/
theorem insertion_sw (enc : α → Value) (cf : α → α → Int) (g : Nat) (cb : Array Value) (blk off cap a b : Nat) (d0 d : Array α) (w0 w : World)
    (eg : ∀ args w, (callFunc g args).run Try.prog w = .ok (.enter g args) w) (hcmp : CmpLays1 Try.prog g cb enc cf blk off d0.size w0) (R : Row1 enc w0 blk off d0) (hs : d0.size = d.size) (S : SW enc w0 blk off d w) (hab : a ≤ b) (hb : b ≤ d.size) (hsz : d.size < 4611686018427387904) :
    Calls Try.prog 39 #[.slice (some ⟨blk, off, none⟩) d.size cap, .int .i64 a, .int .i64 b, .func (.func g) #[] cb] w fun e w' => e = .returned (.tuple #[]) ∧ SW enc w0 blk off (insertionSort (ltOf cf) d a b) w' :=
  Any.insertionSortCmpFunc_s insLays enc cf g cb blk off cap a b d0 d w0 w eg hcmp R hs S hab hb hsz

end

/-- bef on places of a list of m + 1 rests. -/
def befF {m : Nat} (rs : List Int) (x y : Fin (m + 1)) : Bool := bef rs x.val y.val

theorem befF_swo {m : Nat} (rs : List Int) : SWO (befF (m := m) rs) where
  irrefl x := bef_irrefl rs x.val
  trans x y z h1 h2 := by unfold befF at *; rw [bef_iff] at *; omega
  ntrans x y z h1 h2 := by unfold befF at *; rw [bef_false] at *; omega

theorem ltOf_cfP {m : Nat} (rs : List Int) (x y : Fin (m + 1)) (h : y.val < x.val) : ltOf (cfP rs) x y = befF rs x y := by
  unfold ltOf cfP befF cmpI bef
  rw [Bool.eq_iff_iff, decide_eq_true_iff, decide_eq_true_iff]
  split
  · exact ⟨fun _ => Or.inl (by assumption), fun _ => by decide⟩
  · split
    · exact ⟨fun h => absurd h (by decide), fun _ => by omega⟩
    · exact ⟨fun h => absurd h (by decide), fun _ => by omega⟩

/-- The places 0, 1, .. in their order. -/
def places (m : Nat) : Array (Fin (m + 1)) := Array.ofFn fun i => i

theorem places_size (m : Nat) : (places m).size = m + 1 := by simp [places]
theorem places_get (m k : Nat) (h : k < m + 1) : ((places m)[k]!).val = k := by
  rw [getElem!_pos _ k (by rw [places_size]; exact h)]
  simp [places]

theorem places_list (m : Nat) : (places m).toList.map (encP m) = (List.range (m + 1)).map fun i : Nat => Value.int .i64 (i : Int) := by
  apply List.ext_getElem
  · simp [places]
  · intro k h1 h2
    simp only [places, List.getElem_map, Array.getElem_toList, Array.getElem_ofFn, List.getElem_range, encP]

/-- What an array of places, permuted and sorted, is as an order. -/
theorem isOrder_of {m : Nat} {rs : List Int} (hl : rs.length = m + 1) {d : Array (Fin (m + 1))} (hp : PermIn 0 (m + 1) (places m) d) (hs : SortedIn (befF rs) 0 (m + 1) d) : IsOrder rs (d.toList.map fun i => i.val) := by
  obtain ⟨h1, _, h3⟩ := hp
  rw [places_size] at h1
  have e1 : (d.extract 0 (m + 1)).toList = d.toList := by
    rw [Array.extract_eq_self_of_le]; omega
  have e2 : ((places m).extract 0 (m + 1)).toList = (places m).toList := by
    rw [Array.extract_eq_self_of_le]; rw [places_size]; exact Nat.le_refl _
  rw [e1, e2] at h3
  have hperm : (d.toList.map fun i => i.val).Perm (List.range rs.length) := by
    refine (h3.map _).trans ?_
    have : ((places m).toList.map fun i => i.val) = List.range rs.length := by
      rw [hl]
      apply List.ext_getElem
      · simp [places]
      · intro k _ _
        simp only [places, List.getElem_map, Array.getElem_toList, Array.getElem_ofFn, List.getElem_range]
    rw [this]
  have hnd : (d.toList.map fun i => i.val).Nodup := hperm.nodup_iff.2 List.nodup_range
  refine ⟨hperm, ?_⟩
  rw [List.pairwise_iff_getElem]
  intro i j hi hj hij
  have hi' : i < d.size := by simpa using hi
  have hj' : j < d.size := by simpa using hj
  have := hs i j (Nat.zero_le _) hij (by omega)
  rw [getElem!_pos d i hi', getElem!_pos d j hj'] at this
  have hne : (d[i]).val ≠ (d[j]).val := by
    intro e
    have := (List.getElem_inj (h₀ := hi) (h₁ := hj) hnd).1 (by simpa using e)
    omega
  unfold befF at this
  rw [bef_false] at this
  simp only [List.getElem_map, Array.getElem_toList]
  rw [bef_iff]
  omega

/-- An insertion sort of the places by their rests gives their order. -/
theorem insertion_order {m : Nat} {rs : List Int} (hl : rs.length = m + 1) : IsOrder rs ((insertionSort (ltOf (cfP rs)) (places m) 0 (m + 1)).toList.map fun i => i.val) := by
  rw [insertionSort_same (befF_swo rs) (places m) 0 (m + 1) (by rw [places_size]; exact Nat.le_refl _) (fun p q _ hpq hq => ltOf_cfP rs _ _ (by rw [places_get _ _ (by omega), places_get _ _ (by omega)]; exact hpq))]
  obtain ⟨h1, h2⟩ := insertionSort_holds (lt := befF rs) (befF_swo rs) (places m) 0 (m + 1) (Nat.zero_le _) (by rw [places_size]; exact Nat.le_refl _)
  exact isOrder_of hl h1 h2

theorem insertion_size {m : Nat} {rs : List Int} : (insertionSort (ltOf (cfP rs)) (places m) 0 (m + 1)).size = m + 1 := by
  rw [insertionSort_same (befF_swo rs) (places m) 0 (m + 1) (by rw [places_size]; exact Nat.le_refl _) (fun p q _ hpq hq => ltOf_cfP rs _ _ (by rw [places_get _ _ (by omega), places_get _ _ (by omega)]; exact hpq))]
  rw [(insertionSort_holds (lt := befF rs) (befF_swo rs) (places m) 0 (m + 1) (Nat.zero_le _) (by rw [places_size]; exact Nat.le_refl _)).1.1, places_size]

/-- A list of places, as Go's slice of them holds it. -/
def natCells (o : List Nat) : List Value := o.map fun i : Nat => .int .i64 (i : Int)

theorem natCells_enc {m : Nat} (d : Array (Fin (m + 1))) : d.toList.map (encP m) = natCells (d.toList.map fun i => i.val) := by
  unfold natCells encP
  rw [List.map_map]
  rfl

end Go.Proofs.Ytbndcjbnpgdpjaa
