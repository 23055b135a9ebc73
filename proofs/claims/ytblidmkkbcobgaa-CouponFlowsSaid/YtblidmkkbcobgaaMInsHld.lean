/- slices.Insert of one element into a row of the call's own (elements of 3 cells): behind the end, where there is room, into a new row. -/
import Derived.Test.YtblidmkkbcobgaaMG3
import Derived.Test.YtblidmkkbcobgaaMG1
import Derived.Maps.AppendAt
import Derived.Tactics2
import Derived.Shelf.RegionOpenPlain
set_option linter.unusedSimpArgs false
set_option linter.unusedVariables false
set_option linter.unusedSimpArgs false
set_option linter.unusedVariables false
namespace Go.Proofs.Ytblidmkkbcobgaa
open Go.RowKit Go.Lib Go.Proofs

theorem infoIHld : (Try.prog.info? 53).map (fun i => (i.zero, i.size, i.bytes)) = some (some (.agg #[.int .i64 0, .int .i64 0, .int .i64 0]), 3, 24) := by kernel_rfl
theorem undIHld : Try.prog.underlying 26 = some (.slice 53) := by kernel_rfl
theorem sizIHld : (Try.prog.info? 53).map (·.size) = some 3 := by kernel_rfl

set_option maxHeartbeats 4000000 in
set_option maxRecDepth 100000 in
/-- Behind the end. -/
theorem insHld_end (base vb vc : Nat) (v : Value) (l : List Hld) (x : Hld) (w : World) (hl : l.length ≤ 1000) (hown : w.ownsRow base 53 3 v l.length (cellsL hldC l)) (hbase : base ≤ w.heap.size)
    (hx : ∀ j u, (hldC x)[j]? = some u → w.cell? ⟨vb, j, none⟩ = some u) :
    Calls Try.prog 144 #[v, .int .i64 l.length, .slice (some ⟨vb, 0, none⟩) 1 vc] w fun e w' => ∃ v', e = .returned v' ∧ RowTo base 53 3 w v w' v' (l.length + 1) (cellsL hldC (l ++ [x])) := by
  obtain ⟨i, hi, hz, hsz, hby⟩ := info_parts infoIHld
  obtain ⟨ao, cap, rfl, hle, hcs⟩ := owns_gen hown
  have hle2 : ¬ ((cap : Int) < (l.length : Int)) := by omega
  have hcapI : cap ≤ 9223372036854775807 := by
    rcases hown.2 with ⟨h1, _⟩ | ⟨g, c2, cur, h1, _, _, _, h2, _⟩
    · simp only [Value.slice.injEq] at h1; omega
    · simp only [Value.slice.injEq] at h1; unfold maxLen at h2; omega
  go_enter Try.func144, Try.ntmps144
  rcases hcs with ⟨rfl, h0, rfl⟩ | ⟨g, rfl, hg⟩
  · have hl0 : l = [] := List.length_eq_zero_iff.1 h0
    subst hl0
    go_wp2_with (at_builtin; refine wpList_append_moved _ rfl _ _ 26 rfl base 53 i _ 3 24 undIHld hi hz hsz hby rfl (by decide) _ 0 _ rfl hown ⟨vb, 0, none⟩ 1 vc (hldC x) rfl rfl (fun j u hj => by rw [Addr.add_lit, Nat.zero_add]; exact hx j u hj) (hldF.one x) (by decide) (by decide) (by decide) hbase ?_; rintro v' w' ho hgr hmv)
    go_ret
    exact ⟨_, rfl, by simpa [cellsL] using ho, hgr, hmv⟩
  · go_wp2_with (at_builtin; refine wpList_append_moved _ rfl _ _ 26 rfl base 53 i _ 3 24 undIHld hi hz hsz hby rfl (by decide) _ l.length _ rfl hown ⟨vb, 0, none⟩ 1 vc (hldC x) rfl rfl (fun j u hj => by rw [Addr.add_lit, Nat.zero_add]; exact hx j u hj) (hldF.one x) (by decide) (by unfold maxLen; omega) (by omega) hbase ?_; rintro v' w' ho hgr hmv)
    all_goals (go_ret; exact ⟨_, rfl, by rw [← cellsL_snoc]; exact ho, hgr, hmv⟩)

set_option maxHeartbeats 4000000 in
set_option maxRecDepth 100000 in
/-- Within, where there is room. -/
theorem insHld_room (base g cap vb vc i : Nat) (l : List Hld) (x : Hld) (w : World) (vcs : Array Value) (vt : TypeId) (hl : l.length ≤ 1000) (hi : i < l.length) (hroom : l.length + 1 ≤ cap) (hown : w.ownsRow base 53 3 (.slice (some ⟨g, 0, none⟩) l.length cap) l.length (cellsL hldC l))
    (hvb : w.heap[vb]? = some (.cells vcs vt (0, 0))) (hvc : vcs.toList = hldC x) (hne : vb ≠ g) :
    Calls Try.prog 144 #[.slice (some ⟨g, 0, none⟩) l.length cap, .int .i64 i, .slice (some ⟨vb, 0, none⟩) 1 vc] w fun e w' => ∃ v', e = .returned v' ∧ RowTo base 53 3 w (.slice (some ⟨g, 0, none⟩) l.length cap) w' v' (l.length + 1) (cellsL hldC (l.take i ++ x :: l.drop i)) := by
  obtain ⟨cur, hbg, hg, hcm, hcs, htk⟩ : ∃ cur, base ≤ g ∧ w.heap[g]? = some (.cells cur 53 (0, 0)) ∧ cap ≤ maxLen ∧ cur.size = cap * 3 ∧ cur.toList.take (l.length * 3) = cellsL hldC l := by
    rcases hown.2 with ⟨h1, _⟩ | ⟨g2, c2, cur, h1, h2, h3, h4, h5, h6, h7⟩
    · simp at h1
    · simp only [Value.slice.injEq, Option.some.injEq, Addr.mk.injEq, and_true, true_and] at h1
      obtain ⟨rfl, rfl⟩ := h1
      exact ⟨cur, h2, h3, h5, h6, h7⟩
  obtain ⟨n, hn⟩ : ∃ n, n = l.length := ⟨_, rfl⟩
  obtain ⟨xs, hxs⟩ : ∃ xs, xs = cellsL hldC l := ⟨_, rfl⟩
  have hxl : xs.length = n * 3 := by rw [hxs, hn]; exact cellsL_len hldF l
  have hx1 : ∀ u ∈ xs, u.oneCell' = true := by rw [hxs]; exact cellsL_one hldF l
  have hcl := hldF.len x
  have hco := hldF.one x
  rw [← cells_ins hldF, ← hxs]
  rw [← hxs, ← hn] at htk
  rw [← hn] at hl hi hroom ⊢
  obtain ⟨xc, hxc⟩ : ∃ xc, xc = hldC x := ⟨_, rfl⟩
  rw [← hxc] at hvc hcl hco ⊢
  clear hn hxs hxc hown
  have hcl2 : cur.toList.length = cap * 3 := by rw [Array.length_toList, hcs]
  have hins := ins_cells htk hcl2 (Nat.le_of_lt hi) hroom hcl
  obtain ⟨c1, hc1⟩ : ∃ c1, c1 = cur.toList.take ((i + 1) * 3) ++ xs.drop (i * 3) ++ cur.toList.drop ((i + 1) * 3 + (xs.drop (i * 3)).length) := ⟨_, rfl⟩
  obtain ⟨c2, hc2⟩ : ∃ c2, c2 = c1.take (i * 3) ++ xc ++ c1.drop (i * 3 + xc.length) := ⟨_, rfl⟩
  have hdl : (xs.drop (i * 3)).length = (n - i) * 3 := by rw [List.length_drop, hxl]; omega
  have hc1l : c1.length = cap * 3 := by
    rw [hc1, hdl, List.length_append, List.length_append, hdl, List.length_take, List.length_drop, hcl2]; omega
  simp only [← hc1] at hins
  rw [← hc2] at hins
  obtain ⟨hc2l, hc2t⟩ := hins
  have hcp1 : ∀ (W : World), W.heap = w.heap → ∀ ty o1 o2 dl dc sl sc, o1 = (i + 1) * 3 → o2 = i * 3 → dl = n - i → sl = n + 1 - i → (Builtin.copy_ #[26, 26] ty #[.slice (some ⟨g, o1, none⟩) dl dc, .slice (some ⟨g, o2, none⟩) sl sc]).run Try.prog W = .ok (goInt (n - i : Nat)) (W.setRow g c1.toArray) := by
    rintro W hW ty o1 o2 dl dc sl sc rfl rfl rfl rfl
    have hm : Nat.min (n + 1 - i) (n - i) = n - i := Nat.min_eq_right (by omega)
    have hgW : W.heap[g]? = some (.cells cur 53 (0, 0)) := by rw [hW]; exact hg
    have h := copy_rowK (P := Try.prog) W 26 26 ty 53 3 g ((i + 1) * 3) (n - i) dc ⟨g, i * 3, none⟩ (n + 1 - i) sc cur 53 (xs.drop (i * 3)) undIHld sizIHld hgW (by rw [hm, hdl]) (fun j v hj => by
      rw [Addr.add_lit, cell_of_row W g _ cur _ (0, 0) hgW]
      rw [List.getElem?_drop, ← htk, List.getElem?_take] at hj
      split at hj
      · rw [← Array.getElem?_toList]; exact hj
      · cases hj) (by rw [hdl, hcs]; omega) (fun u hu => hx1 u (List.mem_of_mem_drop hu))
    rw [hm, ← hc1] at h
    exact h
  have hcp2 : ∀ (W : World), W.heap = (w.setRow g c1.toArray).heap → ∀ ty o1 dl dc, o1 = i * 3 → dl = n + 1 - i → (Builtin.copy_ #[26, 26] ty #[.slice (some ⟨g, o1, none⟩) dl dc, .slice (some ⟨vb, 0, none⟩) 1 vc]).run Try.prog W = .ok (goInt (1 : Nat)) (W.setRow g c2.toArray) := by
    rintro W hW ty o1 dl dc rfl rfl
    have hm : Nat.min 1 (n + 1 - i) = 1 := Nat.min_eq_left (by omega)
    have hgW : W.heap[g]? = some (.cells c1.toArray 53 (0, 0)) := by rw [hW]; exact setRow_heap w g cur _ _ _ hg
    have hvW : W.heap[vb]? = some (.cells vcs vt (0, 0)) := by rw [hW, setRow_other w g vb _ hne]; exact hvb
    have h := copy_rowK (P := Try.prog) W 26 26 ty 53 3 g (i * 3) (n + 1 - i) dc ⟨vb, 0, none⟩ 1 vc c1.toArray 53 xc undIHld sizIHld hgW (by rw [hm, hcl]) (fun j v hj => by
      rw [Addr.add_lit, cell_of_row W vb _ vcs _ (0, 0) hvW, Nat.zero_add, ← Array.getElem?_toList, hvc]; exact hj) (by simp only [List.size_toArray]; rw [hc1l, hcl]; omega) hco
    rw [hm] at h
    simp only [List.toList_toArray] at h
    rw [← hc2] at h
    exact h
  have hov : ∀ (W : World), W.heap = w.heap → ∀ o2 lb cb, (callFunc 150 #[.slice (some ⟨vb, 0, none⟩) 1 vc, .slice (some ⟨g, o2, none⟩) lb cb]).run Try.prog W = .ok (.value (.bool false)) W := fun W hW o2 lb cb => by
    have hvW : W.heap[vb]? = some (.cells vcs vt (0, 0)) := by rw [hW]; exact hvb
    have hgW : W.heap[g]? = some (.cells cur 53 (0, 0)) := by rw [hW]; exact hg
    rw [run_callFunc_extern Try.func150 (by kernel_rfl) (by kernel_rfl) (by kernel_rfl) (e := Extern.SlicesOverlaps.overlaps #[26, 26] #[4]) (by kernel_rfl),
      Lib.run_overlaps_apart W 26 4 53 undIHld 3 (fun w => by obtain ⟨i, hi, hz, hsz, hby⟩ := info_parts infoIHld; simp [sizeOf, typeInfo, hi, hsz]) ⟨vb, 0, none⟩ ⟨g, o2, none⟩ 1 vc lb cb hne vt 53 vcs.size cur.size (shape_row hvW) (shape_row hgW) (by rw [hcs]; omega) (frozen_of_row W vb _ vcs _ hvW) (frozen_of_row W vb _ vcs _ hvW)]
    rfl
  unfold maxLen at hcm
  have hR : ∀ W : World, W.heap = ((w.setRow g c1.toArray).setRow g c2.toArray).heap → W.os = w.os → W.tape = w.tape → W.output = w.output → RowTo base 53 3 w (.slice (some ⟨g, 0, none⟩) n cap) W (.slice (some ⟨g, 0, none⟩) (n + 1) cap) (n + 1) (xs.take (i * 3) ++ xc ++ xs.drop (i * 3)) := fun W hW h1 h2 h3 => by
    have hgr := grown_step (grown_setRow w g c1.toArray) (grown_setRow (w.setRow g c1.toArray) g c2.toArray)
    have ho := owns_setRow (base := base) (k := 3) (n := n + 1) (cap := cap) (xs := xs.take (i * 3) ++ xc ++ xs.drop (i * 3)) (setRow_heap w g cur c1.toArray 53 (0, 0) hg) hbg hroom (by unfold maxLen; omega) hc2l hc2t
    refine ⟨⟨ho.1, ?_⟩, ⟨h1, h2, h3, by rw [hW]; exact hgr.size, fun k hk hne => by rw [hW]; exact hgr.block k hk hne⟩, Or.inl rfl⟩
    rw [hW]; exact ho.2
  have hi1 : ¬ ((i : Int) = (n : Int)) := by omega
  have hi2 : ¬ ((cap : Int) < (n : Int) + 1) := by omega
  have hi3 : (i : Int) ≤ (n : Int) := by omega
  have hw1 : IntKind.i64.wrap ((i : Int) + 1) = (i : Int) + 1 := by rw [IntKind.wrap_i64]; omega
  have hw2 : IntKind.i64.wrap ((n : Int) + 1) = (n : Int) + 1 := by rw [IntKind.wrap_i64]; omega
  have hb1 : (0 : Int) ≤ (i : Int) + 1 := by omega
  have hin : i ≤ n := by omega
  have htn : ((i : Int) + 1).toNat = i + 1 := by omega
  have hb2 : ¬ (cap = i + 1) := by omega
  have hb3 : (i : Int) ≤ (n : Int) + 1 := by omega
  have hb5 : (i : Int) + 1 ≤ (n : Int) + 1 := by omega
  have hb4 : ¬ (cap = i) := by omega
  have hHR := hid hR
  clear hR hc2l hc2t hc1 hc2 hcs htk hxl hx1 hcl hco hdl hc1l hcl2 hg hvb hvc
  go_enter Try.func144, Try.ntmps144
  go_wp2_with (simp only [hov _ rfl])
  go_region_law (refine step_copy_runI rfl _ _ 26 26 rfl (.slice (some ⟨g, (i + 1) * 3, none⟩) (n - i) (cap - (i + 1))) (.slice (some ⟨g, i * 3, none⟩) (n + 1 - i) (cap - i)) (by simp [Act.eval, Act.put]) (by simp [Act.eval, Act.put]) (hcp1 w.drew rfl _ _ _ _ _ _ _ rfl rfl rfl rfl) ?_)
  go_wp2_with ((with_reducible refine wpList_copyT (by rfl) (.tmp 80) (.tmp 81) 26 26 (by rfl) (goInt (1 : Nat)) ((w.drew.setRow g c1.toArray).setRow g c2.toArray) ?_ ?_); · exact hcp2 (w.drew.setRow g c1.toArray) rfl _ _ _ _ rfl rfl)
  go_ret
  exact ⟨_, rfl, hHR.out ((w.drew.setRow g c1.toArray).setRow g c2.toArray) rfl rfl rfl rfl⟩

set_option maxHeartbeats 4000000 in
set_option maxRecDepth 100000 in
/-- Within, where there is no room: a new row. -/
theorem insHld_grow (base g cap vb vc i : Nat) (l : List Hld) (x : Hld) (w : World) (vcs : Array Value) (vt : TypeId) (hl : l.length ≤ 1000) (hi : i < l.length) (hroom : cap < l.length + 1) (hbase : base ≤ w.heap.size) (hown : w.ownsRow base 53 3 (.slice (some ⟨g, 0, none⟩) l.length cap) l.length (cellsL hldC l))
    (hvb : w.heap[vb]? = some (.cells vcs vt (0, 0))) (hvc : vcs.toList = hldC x) :
    Calls Try.prog 144 #[.slice (some ⟨g, 0, none⟩) l.length cap, .int .i64 i, .slice (some ⟨vb, 0, none⟩) 1 vc] w fun e w' => ∃ v', e = .returned v' ∧ RowTo base 53 3 w (.slice (some ⟨g, 0, none⟩) l.length cap) w' v' (l.length + 1) (cellsL hldC (l.take i ++ x :: l.drop i)) := by
  obtain ⟨cur, hbg, hg, hcm, hcs, htk, hnc⟩ : ∃ cur, base ≤ g ∧ w.heap[g]? = some (.cells cur 53 (0, 0)) ∧ cap ≤ maxLen ∧ cur.size = cap * 3 ∧ cur.toList.take (l.length * 3) = cellsL hldC l ∧ l.length ≤ cap := by
    rcases hown.2 with ⟨h1, _⟩ | ⟨g2, c2, cur, h1, h2, h3, h4, h5, h6, h7⟩
    · simp at h1
    · simp only [Value.slice.injEq, Option.some.injEq, Addr.mk.injEq, and_true, true_and] at h1
      obtain ⟨rfl, rfl⟩ := h1
      exact ⟨cur, h2, h3, h5, h6, h7, h4⟩
  obtain ⟨n, hn⟩ : ∃ n, n = l.length := ⟨_, rfl⟩
  obtain ⟨xs, hxs⟩ : ∃ xs, xs = cellsL hldC l := ⟨_, rfl⟩
  have hxl : xs.length = n * 3 := by rw [hxs, hn]; exact cellsL_len hldF l
  have hx1 : ∀ u ∈ xs, u.oneCell' = true := by rw [hxs]; exact cellsL_one hldF l
  have hcl := hldF.len x
  have hco := hldF.one x
  rw [← cells_ins hldF, ← hxs]
  rw [← hxs, ← hn] at htk
  rw [← hn] at hl hi hroom hnc ⊢
  obtain ⟨xc, hxc⟩ : ∃ xc, xc = hldC x := ⟨_, rfl⟩
  rw [← hxc] at hvc hcl hco ⊢
  clear hn hxs hxc hown
  have hcn : cap = n := by omega
  subst hcn
  have hsrc : ∀ (W : World), (∀ k, k < w.heap.size → W.heap[k]? = w.heap[k]?) → ∀ j u, xs[j]? = some u → W.cell? ⟨g, j, none⟩ = some u := fun W hW j u hj => by
    have hgW : W.heap[g]? = some (.cells cur 53 (0, 0)) := by rw [hW g (obj_lt hg)]; exact hg
    rw [cell_of_row W g _ cur _ (0, 0) hgW]
    rw [← htk, List.getElem?_take] at hj
    split at hj
    · rw [← Array.getElem?_toList]; exact hj
    · cases hj
  obtain ⟨if0, hi0, hz0, hsz0, hby0⟩ := info_parts infoIHld
  obtain ⟨G, hG⟩ : ∃ G, G = grownCap w (cap + 1) cap 53 := ⟨_, rfl⟩
  have hGn : cap + 1 ≤ G := by rw [hG]; exact grownCap_ge w _ _ _
  have hGm : G ≤ maxLen := by rw [hG]; exact grownCap_le_maxLen w (cap + 1) cap 53 (by unfold maxLen; omega)
  obtain ⟨Z, hZ⟩ : ∃ Z, Z = (Value.agg #[.int .i64 0, .int .i64 0, .int .i64 0]).cells := ⟨_, rfl⟩
  have hZs : Z.size = 3 := by rw [hZ]; rfl
  obtain ⟨ROW, hROW⟩ : ∃ ROW : Array Value, ROW = (xs.take (i * 3)).toArray ++ Builtin.zeroCells Z (cap + 1 - i) ++ Builtin.zeroCells Z (G - (cap + 1)) := ⟨_, rfl⟩
  have hTl : (xs.take (i * 3)).length = i * 3 := by rw [List.length_take, hxl]; omega
  have hRl : ROW.toList.length = G * 3 := by
    rw [hROW]
    simp only [Array.length_toList, Array.size_append, List.size_toArray, hTl, Builtin.zeroCells, Array.size_map, Array.size_range, hZs]
    omega
  have hRt : ROW.toList.take (i * 3) = xs.take (i * 3) := by
    rw [hROW]
    simp only [Array.toList_append, List.append_assoc, List.toList_toArray]
    rw [List.take_append_of_le_length (by rw [hTl]; exact Nat.le_refl _), List.take_of_length_le (by rw [hTl]; exact Nat.le_refl _)]
  have hins := ins_new hxl hRt hRl (Nat.le_of_lt hi) hGn hcl
  obtain ⟨r1, hr1⟩ : ∃ r1, r1 = ROW.toList.take (i * 3) ++ xc ++ ROW.toList.drop (i * 3 + xc.length) := ⟨_, rfl⟩
  obtain ⟨r2, hr2⟩ : ∃ r2, r2 = r1.take ((i + 1) * 3) ++ xs.drop (i * 3) ++ r1.drop ((i + 1) * 3 + (xs.drop (i * 3)).length) := ⟨_, rfl⟩
  simp only [← hr1] at hins
  rw [← hr2] at hins
  obtain ⟨hr1l, hr2l, hr2t⟩ := hins
  have hdl : (xs.drop (i * 3)).length = (cap - i) * 3 := by rw [List.length_drop, hxl]; omega
  have hki : (cap : Int) + 1 - (i : Int) = ((cap + 1 - i : Nat) : Int) := by omega
  have happ : ∀ ty, (Builtin.append_ #[26, 3] ty #[.slice (some ⟨g, 0, none⟩) i cap, .int .i64 ((cap : Int) + 1 - (i : Int))]).run Try.prog w = .ok (.slice (some ⟨w.heap.size, 0, none⟩) (cap + 1) G) (w.drew.alloc (.cells ROW 53)) := fun ty => by
    have hold : (Builtin.firstCells if0.size i (.slice (some ⟨g, 0, none⟩) i cap)).run Try.prog w.drew = .ok (xs.take (i * 3)).toArray w.drew := by
      rw [hsz0]
      exact run_firstCells_some w.drew 3 i ⟨g, 0, none⟩ i cap (xs.take (i * 3)) (by rw [hTl]) (fun j v hj => by
        rw [Addr.add_lit, Nat.zero_add]
        rw [List.getElem?_take] at hj
        split at hj
        · exact hsrc w.drew (fun k _ => rfl) j v hj
        · cases hj)
    have hik : i + (cap + 1 - i) = cap + 1 := by omega
    have h := Lib.run_append_grow_zeros (P := Try.prog) w 26 3 ty 53 if0 _ .i64 .i64 undIHld (by kernel_rfl) hi0 hz0 (some ⟨g, 0, none⟩) i cap (xs.take (i * 3)) hold (cap + 1 - i) (by omega) (by rw [hsz0]; decide) (by omega) (by omega) (by rw [hby0]; omega) (by rw [hby0, hik]; exact growslice_fits hroom (by omega))
    rw [hik, ← hG, ← hZ, ← hROW] at h
    rw [hki]
    exact h
  have hcpA : ∀ (W : World), W.heap = (w.alloc (.cells ROW 53)).heap → ∀ ty o1 dl dc, o1 = i * 3 → dl = cap + 1 - i → (Builtin.copy_ #[26, 26] ty #[.slice (some ⟨w.heap.size, o1, none⟩) dl dc, .slice (some ⟨vb, 0, none⟩) 1 vc]).run Try.prog W = .ok (goInt (1 : Nat)) (W.setRow w.heap.size r1.toArray) := by
    rintro W hW ty o1 dl dc rfl rfl
    have hm : Nat.min 1 (cap + 1 - i) = 1 := Nat.min_eq_left (by omega)
    have hgW : W.heap[w.heap.size]? = some (.cells ROW 53 (0, 0)) := by rw [hW]; exact heap_alloc_new w _
    have hvW : W.heap[vb]? = some (.cells vcs vt (0, 0)) := by rw [hW, heap_alloc_old w _ (obj_lt hvb)]; exact hvb
    have h := copy_rowK (P := Try.prog) W 26 26 ty 53 3 w.heap.size (i * 3) (cap + 1 - i) dc ⟨vb, 0, none⟩ 1 vc ROW 53 xc undIHld sizIHld hgW (by rw [hm, hcl]) (fun j v hj => by
      rw [Addr.add_lit, cell_of_row W vb _ vcs _ (0, 0) hvW, Nat.zero_add, ← Array.getElem?_toList, hvc]; exact hj) (by rw [← Array.length_toList, hRl, hcl]; omega) hco
    rw [hm, ← hr1] at h
    exact h
  have hcpB : ∀ (W : World), W.heap = ((w.alloc (.cells ROW 53)).setRow w.heap.size r1.toArray).heap → ∀ ty o1 o2 dl dc sl sc, o1 = (i + 1) * 3 → o2 = i * 3 → dl = cap - i → sl = cap - i → (Builtin.copy_ #[26, 26] ty #[.slice (some ⟨w.heap.size, o1, none⟩) dl dc, .slice (some ⟨g, o2, none⟩) sl sc]).run Try.prog W = .ok (goInt (cap - i : Nat)) (W.setRow w.heap.size r2.toArray) := by
    rintro W hW ty o1 o2 dl dc sl sc rfl rfl rfl rfl
    have hm : Nat.min (cap - i) (cap - i) = cap - i := Nat.min_self _
    have hgW : W.heap[w.heap.size]? = some (.cells r1.toArray 53 (0, 0)) := by rw [hW]; exact setRow_heap _ _ ROW _ _ _ (heap_alloc_new w _)
    have h := copy_rowK (P := Try.prog) W 26 26 ty 53 3 w.heap.size ((i + 1) * 3) (cap - i) dc ⟨g, i * 3, none⟩ (cap - i) sc r1.toArray 53 (xs.drop (i * 3)) undIHld sizIHld hgW (by rw [hm, hdl]) (fun j v hj => by
      rw [Addr.add_lit]
      refine hsrc W (fun k hk => ?_) _ v (by rwa [List.getElem?_drop] at hj)
      rw [hW, setRow_other _ _ _ _ (Nat.ne_of_lt hk)]
      exact heap_alloc_old w _ hk) (by simp only [List.size_toArray]; rw [hr1l, hdl]; omega) (fun u hu => hx1 u (List.mem_of_mem_drop hu))
    rw [hm] at h
    simp only [List.toList_toArray] at h
    rw [← hr2] at h
    exact h
  have hR : ∀ W : World, W.heap = (((w.alloc (.cells ROW 53)).setRow w.heap.size r1.toArray).setRow w.heap.size r2.toArray).heap → W.os = w.os → W.tape = w.tape → W.output = w.output → RowTo base 53 3 w (.slice (some ⟨g, 0, none⟩) cap cap) W (.slice (some ⟨w.heap.size, 0, none⟩) (cap + 1) G) (cap + 1) (xs.take (i * 3) ++ xc ++ xs.drop (i * 3)) := fun W hW h1 h2 h3 => by
    have ho := owns_setRow (base := base) (k := 3) (n := cap + 1) (cap := G) (xs := xs.take (i * 3) ++ xc ++ xs.drop (i * 3)) (setRow_heap (w.alloc (.cells ROW 53)) w.heap.size ROW r1.toArray 53 (0, 0) (heap_alloc_new w _)) hbase hGn hGm hr2l hr2t
    refine ⟨⟨ho.1, ?_⟩, ⟨h1, h2, h3, by rw [hW]; simp, fun k hk hne => ?_⟩, Or.inr fun g hg => by simp only [Value.ownBlock, Option.some.injEq] at hg; omega⟩
    · rw [hW]; exact ho.2
    · rw [hW, setRow_other _ _ _ _ (Nat.ne_of_lt hk), setRow_other _ _ _ _ (Nat.ne_of_lt hk)]
      exact heap_alloc_old w _ hk
  unfold maxLen at hcm hGm
  have hi1 : ¬ ((i : Int) = (cap : Int)) := by omega
  have hi2 : ((cap : Int) < (cap : Int) + 1) := by omega
  have hi3 : (i : Int) ≤ (cap : Int) := by omega
  have hw1 : IntKind.i64.wrap ((i : Int) + 1) = (i : Int) + 1 := by rw [IntKind.wrap_i64]; omega
  have hw2 : IntKind.i64.wrap ((cap : Int) + 1) = (cap : Int) + 1 := by rw [IntKind.wrap_i64]; omega
  have hw3 : IntKind.i64.wrap ((cap : Int) + 1 - (i : Int)) = (cap : Int) + 1 - (i : Int) := by rw [IntKind.wrap_i64]; omega
  have hb1 : (0 : Int) ≤ (i : Int) + 1 := by omega
  have hin : i ≤ cap := by omega
  have htn : ((i : Int) + 1).toNat = i + 1 := by omega
  have hb2 : ¬ (G = i + 1) := by omega
  have hb3 : (i : Int) ≤ (cap : Int) + 1 := by omega
  have hb5 : (i : Int) + 1 ≤ (cap : Int) + 1 := by omega
  have hb4 : ¬ (G = i) := by omega
  have hb6 : ¬ (cap = i) := by omega
  have hHR := hid hR
  clear hR hr2l hr2t hr1 hr2 hcs htk hxl hx1 hcl hco hdl hr1l hRl hRt hROW hZs hZ hsrc hTl hg hvb hvc hki hG hi0 hz0 hsz0 hby0
  go_enter Try.func144, Try.ntmps144
  go_wp2_with (first
    | (at_builtin; refine Lib.wpList_append_run _ rfl _ _ _ _ rfl _ _ rfl rfl _ _ (happ _) ?_)
    | ((with_reducible refine wpList_copyT (by rfl) (.tmp 43) (.tmp 44) 26 26 (by rfl) (goInt (1 : Nat)) ((w.drew.alloc (.cells ROW 53)).setRow w.heap.size r1.toArray) ?_ ?_); · exact hcpA (w.drew.alloc (.cells ROW 53)) rfl _ _ _ _ rfl rfl))
  go_region_law (refine step_copy_runI rfl _ _ 26 26 rfl (.slice (some ⟨w.heap.size, (i + 1) * 3, none⟩) (cap - i) (G - (i + 1))) (.slice (some ⟨g, i * 3, none⟩) (cap - i) (cap - i)) (by simp [Act.eval, Act.put]) (by simp [Act.eval, Act.put]) (hcpB ((w.drew.alloc (.cells ROW 53)).setRow w.heap.size r1.toArray).drew rfl _ _ _ _ _ _ _ rfl rfl rfl rfl) ?_)
  go_wp2
  go_ret
  exact ⟨_, rfl, hHR.out (((w.drew.alloc (.cells ROW 53)).setRow w.heap.size r1.toArray).drew.setRow w.heap.size r2.toArray) rfl rfl rfl rfl⟩

/-- slices.Insert of one element, anywhere in a row of the call's own. -/
theorem insHld_any (base vb vc i : Nat) (v : Value) (l : List Hld) (x : Hld) (w : World) (vcs : Array Value) (vt : TypeId) (hl : l.length ≤ 1000) (hi : i ≤ l.length) (hbase : base ≤ w.heap.size) (hown : w.ownsRow base 53 3 v l.length (cellsL hldC l))
    (hvb : w.heap[vb]? = some (.cells vcs vt (0, 0))) (hvc : vcs.toList = hldC x) (hne : v.ownBlock ≠ some vb) :
    Calls Try.prog 144 #[v, .int .i64 i, .slice (some ⟨vb, 0, none⟩) 1 vc] w fun e w' => ∃ v', e = .returned v' ∧ RowTo base 53 3 w v w' v' (l.length + 1) (cellsL hldC (l.take i ++ x :: l.drop i)) := by
  by_cases hil : i = l.length
  · subst hil
    refine (insHld_end base vb vc v l x w hl hown hbase fun j u hj => ?_).mono ?_
    · rw [cell_of_row w vb _ vcs _ (0, 0) hvb, ← Array.getElem?_toList, hvc]; exact hj
    · rintro e w' ⟨v', h1, h2⟩
      refine ⟨v', h1, ?_⟩
      rw [List.take_length, List.drop_length]
      exact h2
  · obtain ⟨g, cap, rfl, hb, hle⟩ := owns_shape hown (by omega)
    by_cases hroom : l.length + 1 ≤ cap
    · exact insHld_room base g cap vb vc i l x w vcs vt hl (by omega) hroom hown hvb hvc fun e => hne (by simp [Value.ownBlock, e])
    · exact insHld_grow base g cap vb vc i l x w vcs vt hl (by omega) (by omega) hbase hown hvb hvc

end Go.Proofs.Ytblidmkkbcobgaa

