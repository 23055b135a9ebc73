/- The keys of a map from numbers to numbers, sorted; for keys from 100 to 599. -/
import Derived.Test.YtdbpbmejgdbppaaLgQ
import Derived.Test.YtdbpbmejgdbppaaShelfK
set_option linter.unusedSimpArgs false
set_option linter.unusedVariables false
namespace Go.Proofs.Ytdbpbmejgdbppaa
open Go.RowKit Go.Lib Go.Proofs Go.Maps Go.Sort Go.Shelf

/-- All numbers of accounts, ascending. -/
def acctsM : List Int := (List.range 500).map fun i : Nat => (100 : Int) + (i : Int)
theorem acctsM_asc : acctsM.Pairwise (fun x y => x < y) := by
  unfold acctsM
  rw [List.pairwise_map]
  exact (List.pairwise_lt_range).imp fun h => by omega
theorem mem_acctsM {x : Int} : x ∈ acctsM ↔ 100 ≤ x ∧ x ≤ 599 := by
  unfold acctsM
  rw [List.mem_map]
  constructor
  · rintro ⟨i, hi, rfl⟩
    have := List.mem_range.1 hi
    omega
  · intro h
    exact ⟨(x - 100).toNat, List.mem_range.2 (by omega), by omega⟩
theorem keysM_perm {w : World} {b n : Nat} {D : DataW Unit} {K : Int → Bool} (h : w.ownsMap Try.prog 3 (plainElem Try.prog 3) b n D) (hK : ∀ x : Int, Maps.has D (.int .i64 x) = K x) (hr : ∀ x, K x = true → 100 ≤ x ∧ x ≤ 599) : (acctsM.filter K).Perm (intKeys D) := by
  have hc : CollectedI D (fun _ => false) (acctsM.filter K) := by
    refine ⟨(acctsM_asc.imp fun hlt => ?_).filter _, fun x => ?_⟩
    · exact Int.ne_of_lt hlt
    · rw [hK, List.mem_filter, mem_acctsM]
      constructor
      · exact fun hx => ⟨hx.2, rfl⟩
      · exact fun hx => ⟨hr x hx.1, hx.1⟩
  exact hc.perm h (int_keyed Try.underlying3) Try.underlying3 (fun _ => rfl)
theorem keysM_sorted (K : Int → Bool) : (acctsM.filter K).mergeSort leI = acctsM.filter K := by
  refine List.mergeSort_of_pairwise ?_
  exact (acctsM_asc.filter K).imp fun hlt => by simp only [leI, decide_eq_true_eq]; omega

/-- slices.Sort's two contracts at this seat. -/
theorem Try.sortsA (m : Nat) : AnyZI.SortsIn Try.prog Try.sortedA_ren Fence.wide m :=
  ⟨fun blk off cap ss W hH hblk hsz => callsIn_wide.2 (AnyM.slices_Sort_int Try.sortA blk off cap ss W hH hblk hsz),
   fun p cap W => callsIn_wide.2 (AnyM.slices_Sort_int_none Try.sortA p cap W)⟩

theorem mapsKeys_any (mb : Option Nat) (w : World) : Calls Try.prog 36 #[.map mb] w fun e w' => e = .returned (.func (.func 47) #[] #[.pointer (some ⟨w.heap.size, 0, none⟩)]) ∧ w' = w.alloc (.cells #[.map mb] 73) := by
  refine (callsIn_wide (n := 5)).1 ?_
  exact AnyZI.keys_in Try.keysA Fence.wide 5 trivial rfl mb w

/-- The keys of a map that the call owns, ascending. -/
theorem slSorted_any (b nn m : Nat) (g : Int → Int) (K : Int → Bool) (w : World) (hm : MapZ w b nn g K) (hn : nn ≤ 1000) (hr : ∀ x, K x = true → 100 ≤ x ∧ x ≤ 599) (hbox : w.heap[m]? = some (.cells #[.map (some b)] 73 (0, 0))) :
    Calls Try.prog 35 #[.func (.func 47) #[] #[.pointer (some ⟨m, 0, none⟩)]] w fun e w' => ∃ v, e = .returned v ∧ w'.ownsRow w.heap.size 3 1 v (acctsM.filter K).length ((acctsM.filter K).map encZ) ∧ Below w.heap.size w w' := by
  obtain ⟨D, h1, h2, h3⟩ := hm
  refine (callsIn_wide (n := 5)).1 ?_
  have hs := h1.size_le
  have hp := keysM_perm h1 h3 hr
  have hseq : SeqGives Fence.wide 2 Try.prog 47 #[.pointer (some ⟨m, 0, none⟩)] encZ (fun ss => ss.Perm (intKeys D)) (Maps.size D) w :=
    AnyZI.keys_gives (ρ := Try.keysA_ren) { Try.keysA with } Fence.wide _ trivial rfl (by omega) m b nn D _ (obj_lt hbox) (by rw [obj_cell hbox]; rfl) h1
  have cS := AnyZI.sorted_in Try.sortedA Fence.wide 5 trivial trivial trivial trivial rfl (by omega) (Try.sortsA _) (enters_of Try.func46 (by kernel_rfl) rfl) 47 #[.pointer (some ⟨m, 0, none⟩)] trivial (enters_of Try.func47 (by kernel_rfl) rfl) _ (Maps.size D) (by unfold maxLen; omega) (by omega) _ hseq
  change CallsIn _ _ Try.prog 35 _ _ _ at cS
  refine cS.mono ?_
  rintro e w' ⟨v, ss, rfl, hS, hrow, hnil, hb⟩
  refine ⟨v, rfl, ?_, hb⟩
  have hq := hS.trans hp.symm
  rw [show ss.mergeSort (fun x y => decide (x ≤ y)) = acctsM.filter K from (mergeSort_of_perm_i hq).trans (keysM_sorted K), hq.length_eq] at hrow
  exact hrow

end Go.Proofs.Ytdbpbmejgdbppaa
