/- The references of postings, sorted, each once: what Sort and Compact make of them, and the program's refsOf. -/
import Derived.Test.YtdbpbmejgdbppaaCsM
import Derived.Test.YtdbpbmejgdbppaaShelfK
import Derived.Test.YtdbpbmejgdbppaaShelfN
import Derived.Test.YtdbpbmejgdbppaaLgK
import Derived.Sort.OwnSortedInts
import Derived.Lib.RowBridge
set_option linter.unusedSimpArgs false
set_option linter.unusedVariables false
namespace Go.Proofs.Ytdbpbmejgdbppaa
open Go.RowKit Go.Lib Go.Proofs Go.Maps Go.Sort Go.Shelf

theorem upTo_asc {zs : List Int} (h : zs.Pairwise (fun x y => x ≤ y)) : ∀ m, m ≤ zs.length → (compactUpTo zs.toArray m).Pairwise (fun x y => x < y) ∧ (∀ x, x ∈ compactUpTo zs.toArray m ↔ x ∈ zs.take m) ∧ ∀ x ∈ compactUpTo zs.toArray m, ∀ y ∈ zs.drop (m - 1), x ≤ y
  | 0, _ => by simp [compactUpTo]
  | m + 1, hm => by
    obtain ⟨h1, h2, h3⟩ := upTo_asc h m (by omega)
    have hml : m < zs.length := by omega
    have hget : zs.toArray[m]! = zs[m] := by simp [hml]
    rw [compactUpTo_succ, hget, List.take_succ_eq_append_getElem hml]
    have hle : ∀ y ∈ zs.drop m, zs[m] ≤ y := fun y hy => by
      rw [List.drop_eq_getElem_cons hml] at hy
      rcases List.mem_cons.1 hy with rfl | hy
      · exact Int.le_refl _
      · have hp := h
        rw [← List.take_append_drop m zs, List.drop_eq_getElem_cons hml] at hp
        have hp2 := (List.pairwise_append.1 hp).2.1
        rw [List.pairwise_cons] at hp2
        exact hp2.1 y hy
    have hsub : ∀ y ∈ zs.drop m, y ∈ zs.drop (m - 1) := fun y hy => by
      have : zs.drop m = (zs.drop (m - 1)).drop (m - (m - 1)) := by rw [List.drop_drop]; congr 1; omega
      rw [this] at hy
      exact List.mem_of_mem_drop hy
    have hmem : zs[m] ∈ zs.drop m := by rw [List.drop_eq_getElem_cons hml]; exact List.mem_cons_self
    cases hk : keeps zs.toArray m with
    | true =>
      have hlt : ∀ x ∈ compactUpTo zs.toArray m, x < zs[m] := fun x hx => by
        have a := h3 x hx zs[m] (hsub _ hmem)
        rcases Nat.eq_zero_or_pos m with e | e
        · subst e; simp [compactUpTo] at hx
        · simp only [keeps, decide_eq_true_eq] at hk
          have hne : zs.toArray[m]! ≠ zs.toArray[m - 1]! := hk.elim (fun q => by omega) id
          have hm1 : m - 1 < zs.length := by omega
          have hg1 : zs.toArray[m - 1]! = zs[m - 1] := by simp [hm1]
          rw [hget, hg1] at hne
          have b := h3 x hx zs[m - 1] (by rw [List.drop_eq_getElem_cons hm1]; exact List.mem_cons_self)
          have c : zs[m - 1] ≤ zs[m] := List.pairwise_iff_getElem.1 h (m - 1) m hm1 hml (by omega)
          omega
      refine ⟨?_, fun x => ?_, fun x hx y hy => ?_⟩
      · simp only [if_true]
        rw [List.pairwise_append]
        exact ⟨h1, List.pairwise_singleton _ _, fun x hx y hy => by rw [List.mem_singleton] at hy; subst hy; exact hlt x hx⟩
      · simp only [if_true]
        rw [List.mem_append, List.mem_append, h2]
      · simp only [if_true] at hx
        have hy2 : y ∈ zs.drop m := by simpa using hy
        rcases List.mem_append.1 hx with hx | hx
        · exact h3 x hx y (hsub y hy2)
        · rw [List.mem_singleton] at hx; subst hx; exact hle y hy2
    | false =>
      simp only [keeps, decide_eq_false_iff_not, not_or, Classical.not_not] at hk
      obtain ⟨hm0, heq⟩ := hk
      have hm1 : m - 1 < zs.length := by omega
      have hg1 : zs.toArray[m - 1]! = zs[m - 1] := by simp [hm1]
      rw [hget, hg1] at heq
      refine ⟨?_, fun x => ?_, fun x hx y hy => ?_⟩
      · simpa using h1
      · simp only [Bool.false_eq_true, if_false, List.append_nil]
        rw [h2, List.mem_append, List.mem_singleton]
        constructor
        · exact Or.inl
        · rintro (q | rfl)
          · exact q
          · rw [heq]
            exact List.mem_of_getElem? (i := m - 1) (by rw [List.getElem?_take]; simp [show m - 1 < m by omega, hm1])
      · simp only [Bool.false_eq_true, if_false, List.append_nil] at hx
        have hy2 : y ∈ zs.drop m := by simpa using hy
        exact h3 x hx y (hsub y hy2)
theorem compact_asc {zs : List Int} (h : zs.Pairwise (fun x y => x ≤ y)) : (Lib.compact zs).Pairwise (fun x y => x < y) ∧ ∀ x, x ∈ Lib.compact zs ↔ x ∈ zs := by
  obtain ⟨h1, h2, _⟩ := upTo_asc h zs.length (Nat.le_refl _)
  exact ⟨h1, fun x => by unfold Lib.compact; rw [h2, List.take_length]⟩
theorem refs_sorted (l : List Pst) : Lib.compact ((l.map Pst.ref).mergeSort fun x y => decide (x ≤ y)) = refsM l := by
  have hs : ((l.map Pst.ref).mergeSort fun x y => decide (x ≤ y)).Pairwise (fun x y => x ≤ y) := by
    have := List.pairwise_mergeSort (le := fun x y : Int => decide (x ≤ y)) (fun a b c h1 h2 => by simp at *; omega) (fun a b => by simp; omega) (l.map Pst.ref)
    exact this.imp fun h => by simpa using h
  obtain ⟨h1, h2⟩ := compact_asc hs
  refine asc_ext h1 (refsM_asc l) fun x => ?_
  rw [h2, List.mem_mergeSort, refsM_mem, List.mem_map]

theorem cellsI_map (l : List Int) : cellsI l = l.map (Value.int .i64) := rfl
/-- slices.Sort of a row of the call's own. -/
theorem sortInts_any (zs : List Int) (v : Value) (base : Nat) (w : World) (hown : w.ownsRow base 3 1 v zs.length (cellsI zs)) (hlen : zs.length ≤ 1000000) :
    Calls Try.prog 46 #[v] w fun e w' => e = .returned (.tuple #[]) ∧ w'.ownsRow base 3 1 v zs.length (cellsI (zs.mergeSort fun x y => decide (x ≤ y))) ∧ w.grownBy w' v.ownBlock := by
  rcases hown.2 with ⟨rfl, hn⟩ | ⟨g, cap, cur, rfl, hb, hx, h1, h2, h3, h4⟩
  · obtain rfl := List.length_eq_zero_iff.1 hn
    exact (AnyM.slices_Sort_int_none Try.sortA none 0 w).mono fun e w' h => by
      obtain ⟨rfl, rfl⟩ := h
      exact ⟨rfl, by simpa using hown, grownBy_refl _ _⟩
  · have hH := holds_of_blockI (ss := zs) hx (by rw [Nat.mul_one] at h4; exact h4)
    refine (AnyM.slices_Sort_int Try.sortA g 0 cap zs w hH (obj_lt hx) (by omega)).mono fun e w' h => ?_
    obtain ⟨rfl, n, os, rfl⟩ := h
    exact ⟨rfl, ownsRow_sortedI (by simp) hb hx h1 h2 h3, grownBy_sortedI _⟩
/-- slices.Compact of a row of the call's own. -/
theorem compactInts_any (zs : List Int) (v : Value) (base : Nat) (w : World) (hown : w.ownsRow base 3 1 v zs.length (cellsI zs)) (hlen : zs.length ≤ 1000000) :
    Calls Try.prog 52 #[v] w fun e w' => ∃ v', e = .returned v' ∧ w'.ownsRow base 3 1 v' (Lib.compact zs).length (cellsI (Lib.compact zs)) ∧ w.grownBy w' v.ownBlock := by
  rcases hown.2 with ⟨rfl, hn⟩ | ⟨g, cap, cur, rfl, hb, hx, h1, h2, h3, h4⟩
  · obtain rfl := List.length_eq_zero_iff.1 hn
    exact (Try.slices_Compact_int_empty none 0 w).mono fun e w' h => by
      obtain ⟨rfl, rfl⟩ := h
      exact ⟨_, rfl, by simpa [Lib.compact, compactUpTo] using hown, grownBy_refl _ _⟩
  · have hH := holds_of_blockI (ss := zs) hx (by rw [Nat.mul_one] at h4; exact h4)
    have hc := compact_length_le zs
    refine (Try.slices_Compact_int g 0 cap zs w hH (by omega) h1).mono fun e w' h => ?_
    obtain ⟨rfl, q, rfl⟩ := h
    obtain ⟨ys, hys⟩ : ∃ ys, ys = Lib.compact zs ++ List.replicate (zs.length - (Lib.compact zs).length) 0 := ⟨_, rfl⟩
    have hyl : ys.length = zs.length := by rw [hys]; simp; omega
    have hgr : grow (putRow (Value.int .i64) (Sort.ahead w q) g 0 ys.toArray) #[] = putRow (Value.int .i64) (Sort.ahead w q) g 0 ys.toArray := by
      simp [grow]
      rfl
    have ho := ownsRow_sortedI (n := q) (os := #[]) (ts := ys) hyl hb hx h1 h2 h3
    have hg := grownBy_sortedI (w := w) (g := g) (n := q) (os := #[]) ys.toArray
    rw [hgr] at ho hg
    rw [← hys]
    refine ⟨_, rfl, ?_, hg⟩
    rcases ho.2 with ⟨h0, _⟩ | ⟨g', cap', cur', hv, hb', hx', h1', h2', h3', h4'⟩
    · cases h0
    · cases hv
      refine ⟨by simp [cellsI], .inr ⟨g, cap, cur', rfl, hb', hx', by omega, h2', h3', ?_⟩⟩
      have h5 : (cur'.toList.take (zs.length * 1)).take ((Lib.compact zs).length * 1) = (ys.map (Value.int .i64)).take ((Lib.compact zs).length * 1) := by rw [h4']
      rw [List.take_take, Nat.min_eq_left (by omega)] at h5
      rw [h5, hys, List.map_append, List.take_left' (by simp)]
      rfl

set_option maxRecDepth 100000 in
set_option maxHeartbeats 8000000 in
theorem csrefsOf_any (l : List Pst) (hlen : l.length ≤ 400) (v : Value) (w : World) (hl : PstsAt w v l) :
    Calls Try.prog 40 #[.agg #[v]] w fun e w' => ∃ u, e = .returned u ∧ w'.ownsRow w.heap.size 3 1 u (refsM l).length (cellsI (refsM l)) ∧ Below w.heap.size w w' := by
  obtain ⟨i0, hi0, hz0, hz1, hz2⟩ := info_parts Try.infoInt
  obtain ⟨ao, cap, rfl, hcap, hcs⟩ := hl.open
  have HCS := Lib.hid hcs
  obtain ⟨n, hn⟩ : ∃ n, n = l.length := ⟨_, rfl⟩
  have HN := Lib.hid hn
  rw [← hn] at hcap hlen ⊢
  have HB0 := Lib.hid (below_alloc w (.cells #[.slice ao n cap] 27))
  clear hn hcs hl
  go_enter Try.func40, Try.ntmps40
  go_wp2
  go_loopw [3, 9] (fun v i wr => ∃ k : Nat, i = .int .i64 k ∧ k ≤ n ∧ Hid (wr.ownsRow w.heap.size 3 1 v k (cellsI ((l.take k).map Pst.ref))) ∧ Hid (Below w.heap.size w wr)) (fun _ i _ => n - (RowKit.intOf i).toNat)
  case atStart => exact ⟨0, rfl, by omega, Lib.hid (World.ownsRow_nil _ _ _ _), HB0⟩
  case round =>
    clear HB0
    obtain ⟨k, rfl, hkn, HO, HB⟩ := hrel
    by_cases hlt : k < n
    · have hkl' : k < l.length := by rw [← HN.out]; exact hlt
      obtain ⟨b, o, rfl, hb, hcc⟩ := HCS.out (by omega)
      have hcell := fun j (hj : j < 8) => (HB.out.cell (p := ⟨b, o + k * 8 + j, none⟩) hb).trans (hcc k hkl' j hj)
      have HTK : Hid ((l.take (k + 1)).map Pst.ref = (l.take k).map Pst.ref ++ [(pstAt l k).ref]) := Lib.hid (by rw [take_snoc_at hkl', List.map_append]; rfl)
      generalize pstAt l k = x at *
      obtain ⟨x0, x1, x2, x3, x4, x5, x6, x7⟩ := x
      have c0 : wr.cell? ⟨b, o + k * 8, none⟩ = some (.int .i64 x0) := hcell 0 (by omega)
      have c1 : wr.cell? ⟨b, o + k * 8 + 1, none⟩ = some (.int .i64 x1) := hcell 1 (by omega)
      have c2 : wr.cell? ⟨b, o + k * 8 + 2, none⟩ = some (.int .i64 x2) := hcell 2 (by omega)
      have c3 : wr.cell? ⟨b, o + k * 8 + 3, none⟩ = some (.int .i64 x3) := hcell 3 (by omega)
      have c4 : wr.cell? ⟨b, o + k * 8 + 4, none⟩ = some (.int .i64 x4) := hcell 4 (by omega)
      have c5 : wr.cell? ⟨b, o + k * 8 + 5, none⟩ = some (.int .i64 x5) := hcell 5 (by omega)
      have c6 : wr.cell? ⟨b, o + k * 8 + 6, none⟩ = some (.int .i64 x6) := hcell 6 (by omega)
      have c7 : wr.cell? ⟨b, o + k * 8 + 7, none⟩ = some (.int .i64 x7) := hcell 7 (by omega)
      have hk0 : (0 : Int) ≤ (k : Int) := by omega
      have hk1 : (k : Int) < (n : Int) := by omega
      have hsz := HB.out.size
      clear hcell hcc hkl'
      go_wp2_with (at_builtin; refine wpList_append_own _ rfl _ _ 22 rfl w.heap.size 3 i0 (.int .i64 0) 1 8 Try.underlying22 hi0 hz0 hz1 hz2 rfl (by decide) _ _ _ rfl ((HO.out.alloc _).alloc _) ⟨wr.heap.size + 1, 0, none⟩ 1 1 [.int .i64 x7] rfl rfl (new_cells _ _ _ _ (by first | rfl | simp)) (by simp [Value.oneCell']) (by unfold maxLen; omega) (by omega) (by simp; omega) ?_; intro v' w5 hown5 hgr5 _)
      have HO5 : Hid (w5.ownsRow w.heap.size 3 1 v' (k + 1) (cellsI ((l.take (k + 1)).map Pst.ref))) := Lib.hid (by
        rw [HTK.out]
        have := hown5
        simp only [cellsI, List.map_append] at this ⊢
        exact this)
      have HB5 := Lib.hid (((HB.out.alloc HB.out.size (.cells (pstC ⟨x0, x1, x2, x3, x4, x5, x6, x7⟩).toArray 41)).alloc (by simp; omega) (.cells #[.int .i64 x7] 3)).grown hgr5 (by simp; omega) fun j e => ownBlock_le HO.out j e)
      clear hown5 hgr5
      go_wp2
      go_roundw
      case rel => exact ⟨k + 1, by first | rfl | go_num, by omega, HO5, HB5⟩
      case measure => simp [RowKit.intOf]; omega
    · obtain rfl : k = n := by omega
      have hfull : (l.take k).map Pst.ref = l.map Pst.ref := by rw [HN.out, List.take_length]
      have ho := HO.out
      rw [hfull] at ho
      obtain ⟨rs, hrs⟩ : ∃ rs, rs = l.map Pst.ref := ⟨_, rfl⟩
      have hrl : k = rs.length := by rw [hrs, List.length_map]; exact HN.out
      have HEQ : Hid (Lib.compact (rs.mergeSort fun x y => decide (x ≤ y)) = refsM l) := Lib.hid (by rw [hrs]; exact refs_sorted l)
      rw [← hrs, hrl] at ho
      have HSO := Lib.hid (sortInts_any rs _ _ wr ho (by omega))
      have HOW := Lib.hid ho
      have HRL := Lib.hid hrl
      clear ho hfull hrs hrl HO HCS
      go_wp2_with fail
      refine HSO.out.mono ?_
      rintro e w6 ⟨rfl, ho6, hg6⟩
      have HB6 := Lib.hid (HB.out.grown hg6 HB.out.size fun j e => ownBlock_le HOW.out j e)
      have hml : (rs.mergeSort fun x y => decide (x ≤ y)).length = rs.length := by simp
      rw [← hml] at ho6
      have HCO := Lib.hid (compactInts_any _ _ _ w6 ho6 (by have := HRL.out; omega))
      have HO6 := Lib.hid ho6
      clear ho6 hg6 hml
      go_wp2_with fail
      refine HCO.out.mono ?_
      rintro e w7 ⟨v7, rfl, ho7, hg7⟩
      rw [HEQ.out] at ho7
      have HO7 := Lib.hid ho7
      have HB7 := Lib.hid (HB6.out.grown hg7 HB6.out.size fun j e => ownBlock_le HO6.out j e)
      clear ho7 hg7
      go_wp2
      go_ret
      exact ⟨_, rfl, HO7.out, HB7.out⟩

end Go.Proofs.Ytdbpbmejgdbppaa
