/- The walk of ClassificationSums: sums under codes and of years; for every list of numbers. -/
import Derived.Test.YtionnohajnnfmaaDoorSuM
import Derived.Test.YtionnohajnnfmaaDoorTree
import Derived.Test.YtionnohajnnfmaaDoorClAwake
import Derived.Test.YtionnohajnnfmaaDoorClChildren
import Derived.Deep.RegionHeld3
import Derived.Deep.DeepCutAuto
import Derived.Deep.AppendLies
import Derived.IntWalk
namespace Go.Proofs.YtionnohajnnfmaaDoor
open Go.RowKit Go.Lib Go.Proofs

/-- What a made classification gives every world in which only the tape has turned. -/
structure MadeT (w2 : World) (tb g cap : Nat) (hs : List Head) : Prop where
  cells : ∀ W, w2.grownBy W (some tb) → ∀ k (hk : k < hs.length), W.cell? ⟨g, k * 2, none⟩ = some (.string hs[k].1) ∧ W.cell? ⟨g, k * 2 + 1, none⟩ = some (.string hs[k].2)

theorem grownBy_cell {w w' : World} {tb g : Nat} (h : w.grownBy w' (some tb)) (hg : g < w.heap.size) (hne : g ≠ tb) (j : Nat) : w'.cell? ⟨g, j, none⟩ = w.cell? ⟨g, j, none⟩ :=
  World.cell?_of_block (h.block g hg (fun e => hne (by injection e)))

theorem madeT_tree {w w2 : World} {v : Value} {hs : List Head} {n : Nat} {ls : List (List Nat)} (ho : w2.ownsRow (w.heap.size + 1) 30 2 v hs.length (cellsH hs)) (ht : TreeHs n ls hs) (hn : n ≤ 60) :
    2 ≤ hs.length ∧ hs.length ≤ 65 ∧ ∃ g cap, v = .slice (some ⟨g, 0, none⟩) hs.length cap ∧ hs.length ≤ cap ∧ g < w2.heap.size ∧ MadeT w2 w.heap.size g cap hs := by
  have hl := tree_len ht
  have h2 := ht.pos
  have h3 := ht.len
  refine ⟨by omega, by omega, ?_⟩
  obtain ⟨g, cap, rfl, hg, hc⟩ := owns_shape ho (by omega)
  have hlt : g < w2.heap.size := (ho.lt g rfl).2
  refine ⟨g, cap, rfl, hc, hlt, ⟨fun W hW k hk => ?_⟩⟩
  obtain ⟨c1, c2⟩ := cellsH_get hs k hk
  rw [grownBy_cell hW hlt (by omega), grownBy_cell hW hlt (by omega), ho.cellAt (k * 2) (by omega), ho.cellAt (k * 2 + 1) (by omega), c1, c2]
  exact ⟨rfl, rfl⟩

/-- Only the tape has turned; the codes stand in block g. -/
structure OInv (w2 : World) (tb g m : Nat) (cs : List ByteArray) (W : World) : Prop where
  tape : TapeAt W tb
  old : w2.grownBy W (some tb)
  cells : ∀ W, w2.grownBy W (some tb) → ∀ j, j < m → W.cell? ⟨g, j * 2, none⟩ = some (.string (cs.getD j ⟨#[]⟩))
  pos : 1 ≤ m ∧ m ≤ 1000

theorem OInv.drew {w2 W : World} {tb g m : Nat} {cs : List ByteArray} (h : OInv w2 tb g m cs W) : OInv w2 tb g m cs W.drew := ⟨h.tape.below ((Below.refl _ _).drew), grownBy_trans h.old (grownBy_below ((Below.refl _ _).drew)), h.cells, h.pos⟩
theorem OInv.both {w2 W : World} {tb g m : Nat} {cs : List ByteArray} (h : OInv w2 tb g m cs W) : OInv w2 tb g m cs W ∧ ∀ j, j < m → W.cell? ⟨g, j * 2, none⟩ = some (.string (cs.getD j ⟨#[]⟩)) := ⟨h, h.cells W h.old⟩
theorem OInv.bothDrew {w2 W : World} {tb g m : Nat} {cs : List ByteArray} (h : OInv w2 tb g m cs W) : OInv w2 tb g m cs W.drew ∧ ∀ j, j < m → W.drew.cell? ⟨g, j * 2, none⟩ = some (.string (cs.getD j ⟨#[]⟩)) := h.drew.both

/-- What N hands back. -/
def OPost (w2 : World) (tb g m : Nat) (cs : List ByteArray) (e : Ending) (w' : World) : Prop := ∃ r : Nat, e = .returned (.int .i64 (r : Int)) ∧ r < m ∧ (0 : Int) ≤ (r : Int) ∧ (r : Int) < m ∧ OInv w2 tb g m cs w'

theorem N_codes {w2 W : World} {tb g m : Nat} {cs : List ByteArray} (h : OInv w2 tb g m cs W) : Calls Tryd.prog 6 #[.pointer (some ⟨tb, 0, none⟩), .int .i64 (m : Int)] W (OPost w2 tb g m cs) := by
  have hp := h.pos
  refine (N_any tb m W h.tape (by omega) (by omega)).mono fun e w' ⟨r, he, r0, r1, ht, hg⟩ => ?_
  exact ⟨r.toNat, by rw [he]; congr 1; congr 1; omega, by omega, by omega, by omega, ht, grownBy_trans h.old hg, h.cells, h.pos⟩

/-- A year that is drawn. -/
def YPost (w2 : World) (tb g m : Nat) (cs : List ByteArray) (e : Ending) (w' : World) : Prop := ∃ r y : Int, e = .returned (.int .i64 r) ∧ IntKind.i64.wrap (5 + r) = y ∧ (y = 5 ∨ y = 6 ∨ y = 7) ∧ OInv w2 tb g m cs w'
theorem N_year {w2 W : World} {tb g m : Nat} {cs : List ByteArray} (h : OInv w2 tb g m cs W) : Calls Tryd.prog 6 #[.pointer (some ⟨tb, 0, none⟩), .int .i64 3] W (YPost w2 tb g m cs) := by
  refine (N_any tb 3 W h.tape (by omega) (by omega)).mono fun e w' ⟨r, he, r0, r1, ht, hg⟩ => ?_
  exact ⟨r, 5 + r, he, IntWalk.i64_in _ (by omega), by omega, ht, grownBy_trans h.old hg, h.cells, h.pos⟩
/-- An amount that is drawn. -/
def APost (w2 : World) (tb g m : Nat) (cs : List ByteArray) (e : Ending) (w' : World) : Prop := ∃ r : Int, e = .returned (.int .i64 r) ∧ 0 ≤ r ∧ r ≤ 99999 ∧ OInv w2 tb g m cs w'
theorem N_amount {w2 W : World} {tb g m : Nat} {cs : List ByteArray} (h : OInv w2 tb g m cs W) : Calls Tryd.prog 6 #[.pointer (some ⟨tb, 0, none⟩), .int .i64 100000] W (APost w2 tb g m cs) := by
  refine (N_any tb 100000 W h.tape (by omega) (by omega)).mono fun e w' ⟨r, he, r0, r1, ht, hg⟩ => ?_
  exact ⟨r, he, r0, by omega, ht, grownBy_trans h.old hg, h.cells, h.pos⟩

/-- What a region that draws a line may see. -/
def Seen (tb g m : Nat) (cs : List ByteArray) (W : World) : Prop := TapeAt W tb ∧ ∀ j, j < m → W.cell? ⟨g, j * 2, none⟩ = some (.string (cs.getD j ⟨#[]⟩))

theorem OInv.alloc {w2 W : World} {tb g m : Nat} {cs : List ByteArray} (h : OInv w2 tb g m cs W) (o : Obj) : OInv w2 tb g m cs (W.alloc o) := ⟨h.tape.below (below_alloc _ _), grownBy_trans h.old (grownBy_below (below_alloc _ _)), h.cells, h.pos⟩
theorem OInv.grown {w2 W A : World} {tb g m B : Nat} {cs : List ByteArray} (h : OInv w2 tb g m cs W) {row : Option Nat} (hg : W.grownBy A row) (hr : ∀ r, row = some r → B ≤ r) (htb : tb < B) (hgb : g < B) : TapeAt A tb ∧ ∀ j, j < m → A.cell? ⟨g, j * 2, none⟩ = some (.string (cs.getD j ⟨#[]⟩)) := by
  refine ⟨h.tape.grown hg fun r e => by have := hr r e; omega, fun j hj => ?_⟩
  have hc := h.cells W h.old j hj
  rw [World.cell?_of_block (w := W) (hg.block g (World.block_lt_of_cell? W _ hc) (fun e => by have := hr g e.symm; omega))]
  exact hc
/-- After an append to the call's own row. -/
theorem OInv.appended {w2 W A : World} {tb g m : Nat} {cs : List ByteArray} (h : OInv w2 tb g m cs W) {row : Option Nat} (hg : W.grownBy A row) (hr : ∀ r, row = some r → w2.heap.size ≤ r) (htb : tb < w2.heap.size) : OInv w2 tb g m cs A :=
  ⟨h.tape.grown hg fun r e => by have := hr r e; omega, ⟨hg.os.trans h.old.os, hg.tape.trans h.old.tape, hg.output.trans h.old.output, Nat.le_trans h.old.size hg.size, fun k hk hne => (hg.block k (Nat.lt_of_lt_of_le hk h.old.size) fun e => by have := hr k e.symm; omega).trans (h.old.block k hk hne)⟩, h.cells, h.pos⟩
theorem OInv.later {w2 W X : World} {tb g m : Nat} {cs : List ByteArray} (h : OInv w2 tb g m cs W) (k : OInv W tb g m cs X) : OInv w2 tb g m cs X := ⟨k.tape, grownBy_trans h.old k.old, h.cells, h.pos⟩
theorem OInv.here {w2 W : World} {tb g m : Nat} {cs : List ByteArray} (h : OInv w2 tb g m cs W) : OInv W tb g m cs W := ⟨h.tape, grownBy_refl _ _, fun X hX => h.cells X (grownBy_trans h.old hX), h.pos⟩

theorem Tryd.infoL : (Tryd.prog.info? 32).map (fun i => (i.zero, i.size, i.bytes)) = some (some (.agg #[.string ⟨#[]⟩, .int .i64 0, .int .i64 0]), 3, 32) := by kernel_rfl
theorem infoL_parts : ∃ i, Tryd.prog.info? 32 = some i ∧ i.zero = some (.agg #[.string ⟨#[]⟩, .int .i64 0, .int .i64 0]) ∧ i.size = 3 ∧ i.bytes = 32 := info_parts Tryd.infoL

theorem three_line (s : ByteArray) (x y : Int) : ∀ u ∈ [Value.string s, Value.int .i64 x, Value.int .i64 y], u.oneCell' = true := by
  intro u hu; simp at hu; rcases hu with rfl | rfl | rfl <;> rfl

theorem OInv.seen {w2 W : World} {tb g m : Nat} {cs : List ByteArray} (h : OInv w2 tb g m cs W) : TapeAt W tb ∧ ∀ j, j < m → W.cell? ⟨g, j * 2, none⟩ = some (.string (cs.getD j ⟨#[]⟩)) := ⟨h.tape, h.cells W h.old⟩

/-- The lines gathered so far, in a row of the call's own. -/
structure LnInv (w2 : World) (ls : List (List Nat)) (L : List Ln) (v : Value) (W : World) : Prop where
  made : ∀ x ∈ L, MadeLn ls x
  row : W.ownsRow w2.heap.size 32 3 v L.length (cellsL L)

theorem below_al {w W : World} (h : Below w.heap.size w W) (o : Obj) : Below w.heap.size w (W.alloc o) := h.trans ((below_alloc W o).mono h.size)
theorem below_tr {w A B : World} (h : Below w.heap.size w A) (k : Below A.heap.size A B) : Below w.heap.size w B := h.trans (k.mono h.size)

theorem ownB_app (c : ByteArray) (y : Int) (l r : List Ln) : ownB c y (l ++ r) = ownB c y l + ownB c y r := by
  induction l with
  | nil => simp [ownB]
  | cons x l ih => simp only [List.cons_append, ownB, ih]; omega
theorem ownB_snoc (c : ByteArray) (y : Int) {l : List Ln} {k : Nat} (hk : k < l.length) : ownB c y (l.take (k + 1)) = ownB c y (l.take k) + if l[k].1 = c ∧ l[k].2.1 = y then l[k].2.2 else 0 := by
  rw [List.take_succ_eq_append_getElem hk, ownB_app]
  simp [ownB]
theorem ownB_bd (c : ByteArray) (y : Int) : ∀ (l : List Ln), LinesOk l → 0 ≤ ownB c y l ∧ ownB c y l ≤ 100000 * l.length
  | [], _ => by simp [ownB]
  | x :: l, h => by
    obtain ⟨i1, i2⟩ := ownB_bd c y l fun y hy => h y (List.mem_cons_of_mem _ hy)
    obtain ⟨_, h1, h2⟩ := h x (by simp)
    simp only [ownB, List.length_cons]
    split <;> (push_cast; omega)

/-- The sum over some codes in year 5. -/
def partsB (L : List Ln) (cs : List ByteArray) : Int := (cs.map fun c => sumB c 5 L).sum
theorem partsB_snoc (L : List Ln) {cs : List ByteArray} {k : Nat} (hk : k < cs.length) : partsB L (cs.take (k + 1)) = partsB L (cs.take k) + sumB cs[k] 5 L := by
  unfold partsB
  rw [List.take_succ_eq_append_getElem hk, List.map_append, List.sum_append]
  simp
theorem partsB_bd (L : List Ln) (h : ∀ top, 0 ≤ sumB top 5 L ∧ sumB top 5 L ≤ 1300000) : ∀ (cs : List ByteArray), 0 ≤ partsB L cs ∧ partsB L cs ≤ 1300000 * cs.length
  | [] => by simp [partsB]
  | x :: l => by
    obtain ⟨i1, i2⟩ := partsB_bd L h l
    have := h x
    unfold partsB at i1 i2 ⊢
    simp only [List.map_cons, List.sum_cons, List.length_cons]
    push_cast
    omega
theorem sumK_parts (ls : List (List Nat)) (x : List Nat) (L : List Ln) : sumK ls x 5 L = partsB L (texts (kids ls x)) := by
  unfold sumK partsB texts
  rw [List.map_map]
  rfl

/-- How far the years' sum has come. -/
def YrAt (a b c yy tt : Int) : Prop := (yy = 5 ∧ tt = 0) ∨ (yy = 6 ∧ tt = a) ∨ (yy = 7 ∧ tt = a + b) ∨ (yy = 8 ∧ tt = a + b + c)

set_option maxRecDepth 100000 in
set_option maxHeartbeats 8000000 in
theorem lawSums_any (v : Value) (n : Nat) (w : World) (hi : IntsAt w v n w.heap.size) (hn : n ≤ 9223372036854775807) (hL : Lay w) :
    Calls Tryd.prog 3 #[v] w fun e w' => e = .returned (.bool true) ∧ Below w.heap.size w w' := by
  obtain ⟨l0, hl, hz0, hz1, hz2⟩ := infoL_parts
  have HNEW := Lib.hid (New_any v n w hi hn)
  clear hi hn
  go_enter Tryd.func3, Tryd.ntmps3
  go_wp2_with fail
  refine (HNEW.out).mono ?_
  rintro e w1 ⟨rfl, t1, b1⟩
  have HT := Lib.hid (Tree_any w.heap.size 10 w1 t1 (by omega))
  have hw1 : w.heap.size < w1.heap.size := t1.lt
  have B1 := Lib.hid b1
  have HL := Lib.hid hL
  clear t1 b1 HNEW hL
  go_wp2_with fail
  refine (HT.out).mono ?_
  rintro e w2 ⟨l, ls, hs, rfl, t2, o2, htree, g2⟩
  have hbel : ∀ W, w2.grownBy W (some w.heap.size) → Below w.heap.size w W := fun W hW => by
    have g3 := grownBy_trans g2 hW
    exact ⟨g3.os.trans B1.out.os, g3.tape.trans B1.out.tape, g3.output.trans B1.out.output, Nat.le_trans B1.out.size g3.size, fun k hk => (g3.block k (by omega) (fun e => by injection e; omega)).trans (B1.out.block k hk)⟩
  obtain ⟨hm2, hm65, g, cap, rfl, hcap, hglt, hmade⟩ := madeT_tree (w := w) (ownsRow_mono o2 (by omega)) htree (by omega)
  have HROWH : Hid (∀ W, w2.grownBy W (some w.heap.size) → RowG W (.slice (some ⟨g, 0, none⟩) hs.length cap) hs.length 2 (cellsH hs)) := Lib.hid fun W hW => RowG.owns (o2.kept hW (ownBlock_ne o2 w.heap.size hw1))
  have HCE := Lib.hid hmade.cells
  have HTR := Lib.hid htree
  have HBEL := Lib.hid hbel
  obtain ⟨m, hm⟩ : ∃ m, m = hs.length := ⟨_, rfl⟩
  rw [← hm] at hm2 hm65 hcap ⊢
  have HM := Lib.hid hm
  obtain ⟨cs, hcs⟩ : ∃ cs, cs = texts ls := ⟨_, rfl⟩
  have hcell : ∀ W, w2.grownBy W (some w.heap.size) → ∀ j, j < m → W.cell? ⟨g, j * 2, none⟩ = some (.string (cs.getD j ⟨#[]⟩)) := fun W hW j hj => by
    have hj2 : j < hs.length := by omega
    rw [(HCE.out W hW j hj2).1, tree_code htree hj2, hcs]
    have : j < ls.length := by rw [← tree_len htree]; exact hj2
    simp [texts, List.getD_eq_getElem?_getD, this]
  have hinv : OInv w2 w.heap.size g m cs w2 := ⟨t2, grownBy_refl _ _, hcell, by omega, by omega⟩
  have HCS := Lib.hid hcs
  have HN0 := Lib.hid (N_any w.heap.size 14 w2 t2 (by omega) (by omega))
  have HI0 := Lib.hid hinv
  clear hmade o2 t2 htree g2 hbel HT B1 hm hcell hcs hinv
  go_wp2_with fail
  refine (HN0.out).mono ?_
  rintro e w3 ⟨r, rfl, r0, r1, t3, g3⟩
  have hI3 : OInv w2 w.heap.size g m cs w3 := ⟨t3, grownBy_trans HI0.out.old g3, HI0.out.cells, HI0.out.pos⟩
  have HI3 := Lib.hid hI3
  clear hI3 t3 g3 HN0
  obtain ⟨i6, rfl⟩ : ∃ i : Nat, r = i := ⟨r.toNat, by omega⟩
  have hi6 : i6 ≤ 13 := by omega
  clear r0 r1
  go_wp2_with fail
  go_loopw [5, 6] (fun v i wr => ∃ (L : List Ln) (k : Nat), i = .int .i64 k ∧ L.length + k ≤ 13 ∧ Hid (LnInv w2 ls L v wr) ∧ Hid (OInv w2 w.heap.size g m cs wr)) (fun _ i _ => (RowKit.intOf i).toNat)
  case atStart => exact ⟨[], i6, rfl, by simpa using hi6, Lib.hid ⟨by simp, World.ownsRow_nil _ _ _ _⟩, HI3⟩
  case round =>
    obtain ⟨L, k, rfl, hLk, HLN, HO⟩ := hrel
    by_cases hpos : 0 < k
    · have hpos' : (0 : Int) < (k : Int) := by omega
      obtain ⟨ao, capL, rfl, hcl, hao⟩ := owns_gen HLN.out.row
      obtain ⟨nL, hnL⟩ : ∃ n, n = L.length := ⟨_, rfl⟩
      rw [← hnL] at hLk hcl ⊢
      have HNL := Lib.hid hnL
      have HAO := Lib.hid hao
      have HROW : Hid (∀ W, wr.grownBy W (some w.heap.size) → W.ownsRow w2.heap.size 32 3 (.slice ao nL capL) nL (cellsL L)) := Lib.hid fun W hW => by
        have := HLN.out.row.kept hW (ownBlock_ne HLN.out.row w.heap.size (by have := HI0.out.tape.lt; omega))
        rw [← HNL.out] at this
        exact this
      clear hnL hao
      have HO0 : OInv wr w.heap.size g m cs wr := HO.out.here
      have HRB : Hid (∀ r, (Value.slice ao nL capL).ownBlock = some r → w2.heap.size ≤ r) := Lib.hid fun r hr => ownBlock_le HLN.out.row r (by rw [← HNL.out]; exact hr)
      have htb : w.heap.size < w2.heap.size := HI0.out.tape.lt
      have hwr2 : w2.heap.size ≤ wr.heap.size := HO.out.old.size
      have HMEM : Hid (∀ j, j < m → ∃ p ∈ ls, cs.getD j ⟨#[]⟩ = codeT p) := Lib.hid fun j hj => by
        have hjl : j < ls.length := by rw [← tree_len HTR.out, ← HM.out]; exact hj
        exact ⟨ls[j], List.getElem_mem _, by rw [HCS.out]; simp [texts, List.getD_eq_getElem?_getD, hjl]⟩
      go_upto_region 7 with fail
      · go_region_held3 (fun W => TapeAt W w.heap.size ∧ ∀ j, j < m → W.cell? ⟨g, j * 2, none⟩ = some (.string (cs.getD j ⟨#[]⟩)))
          (first | exact OInv.seen (by assumption) | exact OInv.seen (OInv.drew (by assumption)) | exact OInv.seen (OInv.alloc (by assumption) _) | exact OInv.grown (OInv.alloc (by assumption) _) hgrow HRB.out htb hglt)
          (first
            | (go_at_call 6; (with_reducible refine (N_codes (by first | assumption | exact OInv.drew (by assumption))).mono ?_); rintro e w' ⟨r, rfl, hr15, hrz0, hrz1, hinv'⟩)
            | (go_at_call 6; (with_reducible refine (N_year (by first | assumption | exact OInv.drew (by assumption))).mono ?_); rintro e w' ⟨yr, y, rfl, hwrap, hyy, hinv'⟩)
            | (go_at_call 6; (with_reducible refine (N_amount (by first | assumption | exact OInv.drew (by assumption))).mono ?_); rintro e w' ⟨am, rfl, ham0, ham1, hinv'⟩)
            | (refine step_append_lies _ (by rfl) _ _ _ (by rfl) w2.heap.size 32 l0 _ 3 32 Tryd.underlying27 hl hz0 hz1 hz2 rfl (by omega) (.slice ao nL capL) nL (cellsL L) (by rfl) ((HROW.out _ (OInv.old (by assumption))).alloc _)
                ⟨w'.heap.size, 0, none⟩ 1 1 [.string (cs.getD r ⟨#[]⟩), .int .i64 y, .int .i64 am] (by rfl) (by rfl) (World.news_of_block (cs := #[.string (cs.getD r ⟨#[]⟩), .int .i64 y, .int .i64 am]) (t := 32) (fr := (0, 0)) (heap_alloc_new w' _)) (three_line _ _ _)
                (by omega) (by unfold maxLen; omega) (by omega) (by have := hinv'.old.size; simp; omega) (w'.heap.size + 1) (by simp) ?_; intro gg cp w1 hown1 hgrow hat hlt))
        have hA : OInv wr w.heap.size g m cs w' := hinv'
        have hO5 : OInv w2 w.heap.size g m cs w1 := ((HO.out.later hA).alloc _).appended hgrow HRB.out htb
        obtain ⟨p, hp, ep⟩ := HMEM.out r hr15
        have hx : MadeLn ls (cs.getD r ⟨#[]⟩, y, am) := ⟨⟨p, hp, ep⟩, hyy, ham0, ham1⟩
        have hLN5 : LnInv w2 ls (L ++ [(cs.getD r ⟨#[]⟩, y, am)]) (.slice (some ⟨gg, 0, none⟩) (nL + 1) cp) w1 := ⟨fun z hz => by
          rcases List.mem_append.1 hz with hz | hz
          · exact HLN.out.made z hz
          · rw [List.mem_singleton.1 hz]; exact hx, by
          rw [List.length_append, ← HNL.out, ← cellsL_app]
          exact hown1⟩
        have HO5 := Lib.hid hO5
        have HLN5 := Lib.hid hLN5
        clear hA hO5 hp ep hx hLN5 hown1 hgrow hat
        go_wp2_with fail
        go_roundw
        case rel => exact ⟨_, k - 1, by (congr 1; omega), by rw [List.length_append, ← HNL.out]; simp; omega, HLN5, HO5⟩
        case measure => simp [RowKit.intOf]; omega
    · obtain rfl : k = 0 := by omega
      obtain ⟨ao, capL, rfl, hcl, hao⟩ := owns_gen HLN.out.row
      obtain ⟨nL, hnL⟩ : ∃ n, n = L.length := ⟨_, rfl⟩
      have hgrow0 := HO.out.old
      have hb0 := HBEL.out wr hgrow0
      have hrowh := HROWH.out wr hgrow0
      have hheads := tree_heads HTR.out
      have hlay : ∀ W, Below wr.heap.size wr W → Lay W := fun W hW => HL.out.below (hb0.trans (hW.mono hb0.size)) (Nat.le_refl _)
      have hrowl : ∀ W, Below wr.heap.size wr W → RowG W (.slice ao L.length capL) L.length 3 (cellsL L) := fun W hW => (RowG.owns HLN.out.row).below hW
      have hlok : LinesOk L := made_lines HTR.out.ok HLN.out.made
      have hll : L.length ≤ 13 := by omega
      have hsum : ∀ (top : ByteArray) (year : Int) W, top.size ≤ 1000000 → Below wr.heap.size wr W → Calls Tryd.prog 7 #[.slice ao L.length capL, .string top, .int .i64 year] W fun e w' => e = .returned (.tuple #[.int .i64 (sumB top year L), .int .i64 0]) ∧ Below W.heap.size W w' := fun top year W ht hW => clSum_any L _ top year W (hlay W hW) (hrowl W hW) (by omega) hlok ht
      have hch : ∀ x W, Below wr.heap.size wr W → Calls Tryd.prog 8 #[.slice (some ⟨g, 0, none⟩) hs.length cap, .string x] W (CodesPost W (childrenOf hs x)) := fun x W hW => clChildren_any hs _ x W (hlay W hW) (hrowh.below hW) (by rw [← HM.out]; omega) hheads
      have haw := fun W (hW : Below wr.heap.size wr W) => awake03_any W (hlay W hW)
      have hce : ∀ W, Below wr.heap.size wr W → ∀ k (hk : k < hs.length), W.cell? ⟨g, k * 2, none⟩ = some (.string hs[k].1) ∧ W.cell? ⟨g, k * 2 + 1, none⟩ = some (.string hs[k].2) := fun W hW k hk => by
        obtain ⟨c1, c2⟩ := HCE.out wr hgrow0 k hk
        have hgl : g < wr.heap.size := Nat.lt_of_lt_of_le hglt HO.out.old.size
        exact ⟨(hW.cell (p := ⟨g, k * 2, none⟩) hgl).trans c1, (hW.cell (p := ⟨g, k * 2 + 1, none⟩) hgl).trans c2⟩
      have hcl : nL = 0 ∨ ∃ q, ao = some ⟨q, 0, none⟩ ∧ q < wr.heap.size ∧ ∀ j, j < nL → wr.cell? ⟨q, j * 3, none⟩ = (cellsL L)[j * 3]? ∧ wr.cell? ⟨q, j * 3 + 1, none⟩ = (cellsL L)[j * 3 + 1]? ∧ wr.cell? ⟨q, j * 3 + 2, none⟩ = (cellsL L)[j * 3 + 2]? := by
        rcases hao with ⟨_, h0, _⟩ | ⟨q, rfl, _⟩
        · left; omega
        · by_cases h0 : nL = 0
          · exact Or.inl h0
          · exact Or.inr ⟨q, rfl, (HLN.out.row.lt q rfl).2, fun j hj => ⟨HLN.out.row.cellAt (j * 3) (by omega), HLN.out.row.cellAt (j * 3 + 1) (by omega), HLN.out.row.cellAt (j * 3 + 2) (by omega)⟩⟩
      have hbd : ∀ top year, 0 ≤ sumB top year L ∧ sumB top year L ≤ 1300000 := fun top year => by
        have := sumB_bd top year L hlok
        omega
      rw [← HM.out] at hch
      rw [← hnL] at hsum hll
      have HB0 := Lib.hid hb0
      have HSUM := Lib.hid hsum
      have HCH := Lib.hid hch
      have HAW := Lib.hid haw
      have HCEL := Lib.hid hce
      have HCL := Lib.hid hcl
      have HBD := Lib.hid hbd
      have HNL := Lib.hid hnL
      clear hsum hch haw hce hcl hbd hlay hrowl hrowh hgrow0 hb0 hao hlok hheads
      rw [← HNL.out]
      clear hnL
      go_wp2_with fail
      obtain ⟨w3, rfl⟩ : ∃ w3, w3 = wr := ⟨_, rfl⟩
      go_loopw [54] (fun i wr => ∃ k : Nat, i = .int .i64 k ∧ k ≤ m ∧ Hid (Below w3.heap.size w3 wr)) (fun i _ => m - (RowKit.intOf i).toNat)
      case atStart => exact ⟨0, rfl, by omega, Lib.hid (Below.refl _ _)⟩
      case round =>
        obtain ⟨k, rfl, hkm, HB⟩ := hrel
        obtain ⟨wk, rfl⟩ : ∃ wk, wk = wr := ⟨_, rfl⟩
        by_cases hlt : k < m
        · have hks : k < hs.length := by rw [← HM.out]; exact hlt
          obtain ⟨c1, c2⟩ := HCEL.out wk HB.out k hks
          have hlk : k < ls.length := by rw [← tree_len HTR.out]; exact hks
          have hgood : GoodN ls[k] := HTR.out.ok.good _ (List.getElem_mem _)
          have hmem : ls[k] ∈ ls := List.getElem_mem _
          have hcode := tree_code HTR.out hks
          have hheads := tree_heads HTR.out
          have hks5 := kids_sum HTR.out.ok hmem 5 (by decide) L HLN.out.made
          have hyrs := sum_years ls hs[k].1 L HLN.out.made
          have hkid := childrenOf_tree HTR.out.ok.good HTR.out.codes (Or.inl hgood)
          rw [sumK_parts, ← hkid, ← hcode] at hks5
          obtain ⟨hz1, _⟩ := hheads hs[k] (List.getElem_mem hks)
          clear hkid hcode hmem hgood
          generalize hs[k].1 = c at *
          generalize hs[k].2 = d at *
          have hkl : (childrenOf hs c).length ≤ 65 := Nat.le_trans (List.length_filter_le _ _) (Nat.le_trans (codesOf_len hs) (by rw [← HM.out]; exact hm65))
          have hksz : ∀ x ∈ childrenOf hs c, x.size ≤ 1000000 := fun x hx => codesOf_sizes hheads x (List.mem_filter.1 hx).1
          have HCHc := HCH.out c
          obtain ⟨kc, hkc⟩ : ∃ kc, kc = childrenOf hs c := ⟨_, rfl⟩
          rw [← hkc] at hks5 hkl hksz HCHc
          have b5 := HBD.out c 5
          have b6 := HBD.out c 6
          have b7 := HBD.out c 7
          have call5 := fun W => HSUM.out c 5 W hz1
          have call6 := fun W => HSUM.out c 6 W hz1
          have call7 := fun W => HSUM.out c 7 W hz1
          have calla := fun W => HSUM.out c (-1) W hz1
          rw [← hyrs, hks5] at calla
          rw [hks5] at call5 b5
          obtain ⟨ow, how⟩ : ∃ ow, ow = ownB c 5 L := ⟨_, rfl⟩
          obtain ⟨pa, hpa⟩ : ∃ pa, pa = partsB L kc := ⟨_, rfl⟩
          rw [← how, ← hpa] at call5 calla b5
          generalize sumB c 6 L = s6 at *
          generalize sumB c 7 L = s7 at *
          have howb := ownB_bd c 5 L (made_lines HTR.out.ok HLN.out.made)
          rw [← how, ← HNL.out] at howb
          have hpab := partsB_bd L (fun top => HBD.out top 5) kc
          rw [← hpa] at hpab
          have how1 : 0 ≤ ow ∧ ow ≤ 1300000 := by omega
          have hpa1 : 0 ≤ pa ∧ pa ≤ 100000000 := by omega
          clear howb hpab b5
          have HKSZ := Lib.hid hksz
          have HC5 := Lib.hid call5
          have HC6 := Lib.hid call6
          have HC7 := Lib.hid call7
          have HCA := Lib.hid calla
          have HCC := Lib.hid HCHc
          have HOW := Lib.hid how
          have HPA := Lib.hid hpa
          have HHB := Lib.hid (below_al HB.out (.cells #[.string c, .string d] 30))
          clear hksz call5 call6 call7 calla HCHc how hpa hkc hks5 hyrs hheads
          go_wp2_with fail
          refine (HC5.out _ HHB.out).mono ?_
          rintro e w4 ⟨rfl, b4⟩
          have hh4 : w4.cell? ⟨wk.heap.size, 0, none⟩ = some (.string c) := by
            rw [b4.cell (p := ⟨wk.heap.size, 0, none⟩) (by simp)]
            simp
          have HB4 := Lib.hid (below_tr HHB.out b4)
          clear b4
          go_wp2_with fail
          refine (HCA.out _ HB4.out).mono ?_
          rintro e w5 ⟨rfl, b5⟩
          have hlt4 := cell_lt hh4
          have hh5 : w5.cell? ⟨wk.heap.size, 0, none⟩ = some (.string c) := (b5.cell (p := ⟨wk.heap.size, 0, none⟩) hlt4).trans hh4
          have hlt5 := cell_lt hh5
          have HB5 := Lib.hid (below_tr HB4.out b5)
          have HH5 := Lib.hid hh5
          clear b5 hh4 hh5 hlt4 c1 c2
          go_wp2_with fail
          go_loopw [13, 74] (fun o i wi => ∃ j : Nat, i = .int .i64 j ∧ j ≤ nL ∧ o = .int .i64 (ownB c 5 (L.take j)) ∧ Hid (Below w5.heap.size w5 wi)) (fun _ i _ => nL - (RowKit.intOf i).toNat)
          case atStart => exact ⟨0, rfl, by omega, rfl, Lib.hid (Below.refl _ _)⟩
          case round =>
            obtain ⟨j, rfl, hjn, rfl, HBI⟩ := hrel
            have hhi : wr.cell? ⟨wk.heap.size, 0, none⟩ = some (.string c) := (HBI.out.cell (p := ⟨wk.heap.size, 0, none⟩) hlt5).trans HH5.out
            by_cases hjl : j < nL
            · rcases HCL.out with h0 | ⟨q, rfl, hq, hqc⟩
              · omega
              obtain ⟨g1, g2, g3⟩ := cellsL_get L j (by rw [← HNL.out]; exact hjl)
              obtain ⟨q1, q2, q3⟩ := hqc j hjl
              have hBw := below_tr HB5.out HBI.out
              have e1 : wr.cell? ⟨q, j * 3, none⟩ = some (.string L[j].1) := by rw [hBw.cell (by exact hq), q1, g1]
              have e2 : wr.cell? ⟨q, j * 3 + 1, none⟩ = some (.int .i64 L[j].2.1) := by rw [hBw.cell (by exact hq), q2, g2]
              have e3 : wr.cell? ⟨q, j * 3 + 2, none⟩ = some (.int .i64 L[j].2.2) := by rw [hBw.cell (by exact hq), q3, g3]
              have hst := ownB_snoc c 5 (l := L) (k := j) (by rw [← HNL.out]; exact hjl)
              obtain ⟨_, hyy, ha0, ha1⟩ := HLN.out.made L[j] (List.getElem_mem _)
              have hob := ownB_bd c 5 (L.take j) (fun x hx => made_lines HTR.out.ok HLN.out.made x (List.mem_of_mem_take hx))
              have hol : ((L.take j).length : Int) ≤ 13 := by have := List.length_take_le j L; omega
              generalize L[j].1 = cc at *
              generalize L[j].2.1 = yy at *
              generalize L[j].2.2 = aa at *
              generalize ownB c 5 (L.take j) = O at *
              have ho0 : 0 ≤ O := hob.1
              have ho1 : O ≤ 1300000 := by omega
              have hltr := Nat.lt_of_lt_of_le hlt5 HBI.out.size
              have HBA := Lib.hid (below_al HBI.out (.cells #[.string cc, .int .i64 yy, .int .i64 aa] 32))
              have hhi2 : (wr.alloc (.cells #[.string cc, .int .i64 yy, .int .i64 aa] 32)).cell? ⟨wk.heap.size, 0, none⟩ = some (.string c) := ((below_alloc wr _).cell (p := ⟨wk.heap.size, 0, none⟩) hltr).trans hhi
              clear hqc g1 g2 g3 q1 q2 q3 hBw hob hol
              by_cases hcc : cc = c
              · have hs1 := strEq_true hcc
                by_cases hy5 : yy = 5
                · subst hy5
                  rw [if_pos ⟨hcc, rfl⟩] at hst
                  have HST := Lib.hid hst
                  clear hst hcc hyy
                  go_wp2_with fail
                  go_roundw
                  case rel => exact ⟨j + 1, by first | rfl | go_num, by omega, by rw [HST.out], HBA⟩
                  case measure => simp [RowKit.intOf]; omega
                · rw [if_neg (fun h => hy5 h.2), Int.add_zero] at hst
                  have HST := Lib.hid hst
                  have hs2 : (yy == 5) = false := by rw [beq_eq_false_iff_ne]; exact hy5
                  clear hst hcc hyy hy5
                  go_wp2_with fail
                  go_roundw
                  case rel => exact ⟨j + 1, by first | rfl | go_num, by omega, by rw [HST.out], HBA⟩
                  case measure => simp [RowKit.intOf]; omega
              · have hs1 := strEq_false hcc
                rw [if_neg (fun h => hcc h.1), Int.add_zero] at hst
                have HST := Lib.hid hst
                clear hst hcc hyy
                go_wp2_with fail
                go_roundw
                case rel => exact ⟨j + 1, by first | rfl | go_num, by omega, by rw [HST.out], HBA⟩
                case measure => simp [RowKit.intOf]; omega
            · obtain rfl : j = nL := by omega
              have hge : (j : Int) ≤ (j : Int) := Int.le_refl _
              rw [HNL.out, List.take_length, ← HOW.out]
              rw [← HNL.out]
              have HCH6 := Lib.hid (HCC.out wr (below_tr HB5.out HBI.out))
              have hlt6 := Nat.lt_of_lt_of_le hlt5 HBI.out.size
              have HB6 := Lib.hid (below_tr HB5.out HBI.out)
              have HH6 := Lib.hid hhi
              clear HBI HB5 HH5 hlt5
              obtain ⟨w6, rfl⟩ : ∃ w6, w6 = wr := ⟨_, rfl⟩
              go_wp2_with fail
              refine (HCH6.out).mono ?_
              rintro e w7 ⟨u, rfl, o7, b7⟩
              have hh7 : w7.cell? ⟨wk.heap.size, 0, none⟩ = some (.string c) := (b7.cell (p := ⟨wk.heap.size, 0, none⟩) hlt6).trans HH6.out
              have hlt7 := cell_lt hh7
              obtain ⟨au, capu, rfl, hcu, hsh⟩ := owns_gen o7
              have ho7 := fun W (hW : Below w7.heap.size w7 W) => ownsRow_below o7 hW
              obtain ⟨nc, hnc⟩ : ∃ nc, nc = kc.length := ⟨_, rfl⟩
              rw [← hnc] at hkl hcu hsh ho7 ⊢
              have HNC := Lib.hid hnc
              have HO7 := Lib.hid ho7
              have HB7 := Lib.hid (below_tr HB6.out b7)
              have HH7 := Lib.hid hh7
              have HSH := Lib.hid hsh
              clear o7 b7 hh7 hsh hnc ho7 HCH6 hlt6 hhi
              go_wp2_with fail
              go_loopw [14, 98] (fun p i wi => ∃ t : Nat, i = .int .i64 t ∧ t ≤ nc ∧ p = .int .i64 (partsB L (kc.take t)) ∧ Hid (Below w7.heap.size w7 wi)) (fun _ i _ => nc - (RowKit.intOf i).toNat)
              case atStart => exact ⟨0, rfl, by omega, rfl, Lib.hid (Below.refl _ _)⟩
              case round =>
                obtain ⟨t, rfl, htn, rfl, HBI⟩ := hrel
                by_cases htl : t < nc
                · have htc : t < kc.length := by rw [← HNC.out]; exact htl
                  rcases HSH.out with ⟨_, h0, _⟩ | ⟨q, rfl, hq⟩
                  · omega
                  have hcj : wr.cell? ⟨q, t, none⟩ = some (.string kc[t]) := by
                    rw [(HO7.out wr HBI.out).cellAt t (by omega), cellsS_get kc t htc]
                  have hst := partsB_snoc L htc
                  have hpb := partsB_bd L (fun top => HBD.out top 5) (kc.take t)
                  have hpl : ((kc.take t).length : Int) ≤ 65 := by have := List.length_take_le t kc; omega
                  have hcall := HSUM.out kc[t] 5 wr (HKSZ.out _ (List.getElem_mem htc)) (below_tr HB7.out HBI.out)
                  have hsb := HBD.out kc[t] 5
                  generalize kc[t] = x at *
                  generalize sumB x 5 L = sx at *
                  generalize partsB L (kc.take t) = P at *
                  have hp0 : 0 ≤ P := hpb.1
                  have hp1 : P ≤ 100000000 := by omega
                  obtain ⟨hs0, hs1⟩ := hsb
                  have HCALL := Lib.hid hcall
                  have HST := Lib.hid hst
                  clear hcall hst hpb hpl
                  go_wp2_with fail
                  refine (HCALL.out).mono ?_
                  rintro e w8 ⟨rfl, b8⟩
                  have HB8 := Lib.hid (below_tr HBI.out b8)
                  clear b8
                  go_wp2_with fail
                  go_roundw
                  case rel => exact ⟨t + 1, by first | rfl | go_num, by omega, by rw [HST.out], HB8⟩
                  case measure => simp [RowKit.intOf]; omega
                · obtain rfl : t = nc := by omega
                  have hge2 : (t : Int) ≤ (t : Int) := Int.le_refl _
                  rw [HNC.out, List.take_length, ← HPA.out]
                  rw [← HNC.out]
                  have hlt8 := Nat.lt_of_lt_of_le hlt7 HBI.out.size
                  have hh8 : wr.cell? ⟨wk.heap.size, 0, none⟩ = some (.string c) := (HBI.out.cell (p := ⟨wk.heap.size, 0, none⟩) hlt7).trans HH7.out
                  have HB8 := Lib.hid (below_tr HB7.out HBI.out)
                  have HH8 := Lib.hid hh8
                  clear hh8 HBI HB7 HH7 hlt7
                  obtain ⟨w8, rfl⟩ : ∃ w8, w8 = wr := ⟨_, rfl⟩
                  go_wp2_with fail
                  go_loopw [15, 22] (fun p i wi => ∃ yy tt : Int, i = .int .i64 yy ∧ p = .int .i64 tt ∧ YrAt (ow + pa) s6 s7 yy tt ∧ Hid (Below w8.heap.size w8 wi)) (fun _ i _ => (8 - RowKit.intOf i).toNat)
                  case atStart => exact ⟨5, 0, rfl, rfl, Or.inl ⟨rfl, rfl⟩, Lib.hid (Below.refl _ _)⟩
                  case round =>
                    obtain ⟨yy, tt, rfl, rfl, hyr, HBI⟩ := hrel
                    have hhi : wr.cell? ⟨wk.heap.size, 0, none⟩ = some (.string c) := (HBI.out.cell (p := ⟨wk.heap.size, 0, none⟩) hlt8).trans HH8.out
                    have HC5w := Lib.hid (HC5.out wr (below_tr HB8.out HBI.out))
                    have HC6w := Lib.hid (HC6.out wr (below_tr HB8.out HBI.out))
                    have HC7w := Lib.hid (HC7.out wr (below_tr HB8.out HBI.out))
                    rcases hyr with ⟨rfl, rfl⟩ | ⟨rfl, rfl⟩ | ⟨rfl, rfl⟩ | ⟨rfl, rfl⟩
                    · go_wp2_with fail
                      refine (HC5w.out).mono ?_
                      rintro e w9 ⟨rfl, b9⟩
                      have HB9 := Lib.hid (below_tr HBI.out b9)
                      clear b9
                      go_wp2_with fail
                      go_roundw
                      case rel => exact ⟨6, _, by first | rfl | go_num, by first | rfl | go_num, Or.inr (Or.inl ⟨rfl, by first | rfl | omega⟩), HB9⟩
                      case measure => simp [RowKit.intOf]
                    · go_wp2_with fail
                      refine (HC6w.out).mono ?_
                      rintro e w9 ⟨rfl, b9⟩
                      have HB9 := Lib.hid (below_tr HBI.out b9)
                      clear b9
                      go_wp2_with fail
                      go_roundw
                      case rel => exact ⟨7, _, by first | rfl | go_num, by first | rfl | go_num, Or.inr (Or.inr (Or.inl ⟨rfl, by first | rfl | omega⟩)), HB9⟩
                      case measure => simp [RowKit.intOf]
                    · go_wp2_with fail
                      refine (HC7w.out).mono ?_
                      rintro e w9 ⟨rfl, b9⟩
                      have HB9 := Lib.hid (below_tr HBI.out b9)
                      clear b9
                      go_wp2_with fail
                      go_roundw
                      case rel => exact ⟨8, _, by first | rfl | go_num, by first | rfl | go_num, Or.inr (Or.inr (Or.inr ⟨rfl, by first | rfl | omega⟩)), HB9⟩
                      case measure => simp [RowKit.intOf]
                    · have HBk := Lib.hid (below_tr HB8.out HBI.out)
                      go_wp2_with fail
                      go_roundw
                      case rel => ((repeat apply Exists.intro); exact ⟨⟨k + 1, by first | rfl | go_num, by omega, HBk⟩, rfl⟩)
                      case measure => simp [RowKit.intOf]; omega
        · obtain rfl : k = m := by omega
          have hge : (k : Int) ≤ (k : Int) := Int.le_refl _
          have HAWw := Lib.hid (HAW.out wk HB.out)
          go_wp2_with fail
          refine (HAWw.out).mono ?_
          rintro e w9 ⟨rfl, b9⟩
          go_wp2
          go_ret
          exact ⟨rfl, HB0.out.trans ((below_tr HB.out b9).mono HB0.out.size)⟩

end Go.Proofs.YtionnohajnnfmaaDoor
