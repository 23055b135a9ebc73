/- consolidation.Whole of a right ledger and a right group: the balances behind the eliminations, what was eliminated, the differences. -/
import Derived.Test.YtdbpbmejgdbppaaCsW
import Derived.Test.YtdbpbmejgdbppaaLgB
import Derived.Test.YtdbpbmejgdbppaaCsY
set_option linter.unusedSimpArgs false
set_option linter.unusedVariables false
namespace Go.Proofs.Ytdbpbmejgdbppaa
open Go.RowKit Go.Lib Go.Proofs Go.Maps Go.Sort Go.Shelf

def InKeys (K : Int → Bool) : Prop := ∀ x, K x = true → 100 ≤ x ∧ x ≤ 599
theorem valB_all {d : Int} {l : List Pst} (h : LdgOk l) (e t : Int) : valB t (balsM fun x => ofM e (byDay d) x l) = ofM e (fun x => decide (x ≤ d)) t l := by
  by_cases ht : 100 ≤ t ∧ t ≤ 599
  · exact valB_bals _ ht
  · have h1 := valB_range (fun x => ofM e (byDay d) x l) t 500
    rw [if_neg (by omega)] at h1
    have h2 : valB t (balsM fun x => ofM e (byDay d) x l) = 0 := h1
    rw [h2]
    cases hk : touchM e (fun x => decide (x ≤ d)) t l with
    | true => exact absurd (touchM_range h.mem hk) ht
    | false => exact (ofM_untouched hk).symm
theorem grp_bound {l : List Pst} (h : LdgOk l) (d t : Int) : ∀ g : List Int, -(400000000000000 * (g.length : Int)) ≤ grpM d l t g ∧ grpM d l t g ≤ 400000000000000 * (g.length : Int)
  | [] => by simp [grpM]
  | e :: g => by
    have h1 := grp_bound h d t g
    have h2 := ofM_bound (e := e) (f := fun x => decide (x ≤ d)) (a := t) h.mem
    have h3 := h.len
    have h4 : (400000000000000 : Int) * (((e :: g).length : Nat) : Int) = 400000000000000 * (g.length : Int) + 400000000000000 := by rw [List.length_cons, Int.natCast_add, Int.mul_add]; simp
    rw [grpM, h4]
    omega
theorem bal_in {l : List Pst} (h : LdgOk l) (e d : Int) : ∀ b ∈ balsM fun x => ofM e (byDay d) x l, (100 ≤ b.acct ∧ b.acct ≤ 599) ∧ (-400000000000000 ≤ b.amt ∧ b.amt ≤ 400000000000000) := fun b hb => by
  obtain ⟨h1, h2, h3⟩ := mem_bals hb
  have h4 := ofM_bound (e := e) (f := byDay d) (a := b.acct) h.mem
  have h5 := h.len
  rw [h1]
  exact ⟨h3, by omega, by omega⟩
theorem valB_bound {B t : Int} (hB : 0 ≤ B) : ∀ {l : List Blc}, (∀ b ∈ l, -B ≤ b.amt ∧ b.amt ≤ B) → -(B * (l.length : Int)) ≤ valB t l ∧ valB t l ≤ B * (l.length : Int)
  | [], _ => by simp [valB]
  | b :: l, h => by
    have h1 := valB_bound hB (t := t) (l := l) fun x hx => h x (List.mem_cons_of_mem _ hx)
    have h2 := h b List.mem_cons_self
    have h3 : B * (((b :: l).length : Nat) : Int) = B * (l.length : Int) + B := by rw [List.length_cons, Int.natCast_add, Int.mul_add]; simp
    rw [valB, h3]
    split <;> omega
theorem valB_snoc (t : Int) (l : List Blc) (b : Blc) : valB t (l ++ [b]) = valB t l + (if b.acct = t then b.amt else 0) := by
  rw [valB_app]; simp [valB]
theorem bals_len (g : Int → Int) : (balsM g).length ≤ 500 := by
  have h1 := balsOf_length g acctsM
  have h2 : acctsM.length = 500 := by unfold acctsM; simp
  unfold balsM
  omega
/-- A row of differences of the call's own stays as it is where a map or the whole is turned. -/
theorem dif_kept {A B : World} {base b : Nat} {v : Value} {n : Nat} {xs : List Value} (h : A.ownsRow base 35 5 v n xs) (hg : A.grownBy B (some b)) (hno : ∀ cs o, A.heap[b]? ≠ some (.cells cs 35 o)) : B.ownsRow base 35 5 v n xs := by
  refine h.kept hg ?_
  rcases h.2 with ⟨rfl, _⟩ | ⟨g, c, cur, rfl, _, hh, _⟩
  · exact Or.inl rfl
  · refine Or.inr fun he => ?_
    simp only [Value.ownBlock, Option.some.injEq] at he
    subst he
    exact hno _ _ hh
theorem cells_ty {A : World} {b : Nat} {cs cs2 : Array Value} {T T2 : TypeId} {o o2 : Nat × Nat} (h : A.heap[b]? = some (.cells cs T o)) (hne : T ≠ T2) : A.heap[b]? ≠ some (.cells cs2 T2 o2) := fun e => by
  rw [h] at e
  injection e with e
  injection e with _ e
  exact hne e
/-- Whole's state while it eliminates. -/
structure VI (w : World) (bQ bZ bW : Nat) (vd vg : Value) (g : List Int) (d : Int) (l : List Pst) (ds : List Dif) (qs : List Qst) (W : World) : Prop where
  wi : ∃ K, WI bQ bZ bW (fun t => grpM d l t g + elAc d l t qs) K (elimQ d l qs) vd W
  dif : W.ownsRow w.heap.size 35 5 vd ds.length (cellsL difC ds)
  old : Below w.heap.size w W
  grp : ListAt intC 1 W vg g
  lo : w.heap.size + 1 < bZ ∧ w.heap.size + 1 < bW
  res : W.heap[w.heap.size + 1]? = some (.cells #[.slice none 0 0, .int .i64 0, .slice none 0 0] 47 (0, 0))
/-- A row of the call's own stays as it is where a map is turned. -/
theorem own_kept_map {A B : World} {base b k : Nat} {T : TypeId} {v : Value} {n : Nat} {xs : List Value} (h : A.ownsRow base T k v n xs) (hg : A.grownBy B (some b)) (hno : ∀ cs T o, A.heap[b]? ≠ some (.cells cs T o)) : B.ownsRow base T k v n xs := by
  refine h.kept hg ?_
  rcases h.2 with ⟨rfl, _⟩ | ⟨g, c, cur, rfl, _, hh, _⟩
  · exact Or.inl rfl
  · refine Or.inr fun he => ?_
    simp only [Value.ownBlock, Option.some.injEq] at he
    subst he
    exact hno _ _ _ hh
/-- Whole's state while it adds up. -/
structure VL (w : World) (bZ : Nat) (gf : Int → Int) (K : Int → Bool) (vl vd : Value) (ds : List Dif) (W : World) : Prop where
  q : W.heap[bZ + 1]? = some (.cells #[.map (some bZ)] 73 (0, 0))
  z : MapZ W bZ 500 gf K
  kr : InKeys K
  dif : W.ownsRow w.heap.size 35 5 vd ds.length (cellsL difC ds)
  led : W.heap[w.heap.size]? = some (.cells #[vl] 27 (0, 0))
  res : W.heap[w.heap.size + 1]? = some (.cells #[.slice none 0 0, .int .i64 0, .slice none 0 0] 47 (0, 0))
  old : Below w.heap.size w W
theorem VL.below {w : World} {bZ : Nat} {gf : Int → Int} {K : Int → Bool} {vl vd : Value} {ds : List Dif} {A B : World} (h : VL w bZ gf K vl vd ds A) (hb : Below A.heap.size A B) : VL w bZ gf K vl vd ds B :=
  ⟨obj_below h.q hb, h.z.below hb, h.kr, ownsRow_below h.dif hb, obj_below h.led hb, obj_below h.res hb, h.old.trans (hb.mono h.old.size)⟩
theorem VL.store {w : World} {bZ : Nat} {gf g2 : Int → Int} {K K2 : Int → Bool} {vl vd : Value} {ds : List Dif} {A B : World} (h : VL w bZ gf K vl vd ds A) (hz : w.heap.size ≤ bZ) (hg : A.grownBy B (some bZ)) (hm : MapZ B bZ 501 g2 K2) (hk : InKeys K2) : VL w bZ g2 K2 vl vd ds B := by
  have hne : ∀ {b : Nat} {cs : Array Value} {T : TypeId} {o : Nat × Nat}, A.heap[b]? = some (.cells cs T o) → some b ≠ some bZ := fun hb e => by
    injection e with e
    subst e
    exact h.z.noCells hb
  exact ⟨(hg.block _ (obj_lt h.q) (hne h.q)).trans h.q, hm.small hk, hk, own_kept_map h.dif hg fun _ _ _ => h.z.noCells, (hg.block _ (obj_lt h.led) (hne h.led)).trans h.led, (hg.block _ (obj_lt h.res) (hne h.res)).trans h.res, h.old.grown hg h.old.size fun j e => by injection e with e; omega⟩
theorem MapZ.zero {w : World} {b n : Nat} {g : Int → Int} {K : Int → Bool} (h : MapZ w b n g K) {x : Int} (hx : K x = false) : g x = 0 := by
  obtain ⟨D, h1, h2, h3⟩ := h
  have e := Maps.atKey_of_not_has (by rw [h3]; exact hx) (DataW.lit (Lit.int .i64 0) : DataW Unit)
  rw [h2] at e
  simpa using e
/-- What stays where an own row of balances grows and the whole is turned. -/
structure KB (bW : Nat) (A B : World) : Prop where
  size : A.heap.size ≤ B.heap.size
  blk : ∀ b, b < A.heap.size → b ≠ bW → (∀ cs o, A.heap[b]? ≠ some (.cells cs 51 o)) → B.heap[b]? = A.heap[b]?
theorem KB.of_below {bW : Nat} {A B : World} (h : Below A.heap.size A B) : KB bW A B := ⟨h.size, fun b hb _ _ => h.block b hb⟩
theorem KB.trans {bW : Nat} {A B C : World} (h : KB bW A B) (k : KB bW B C) : KB bW A C :=
  ⟨Nat.le_trans h.size k.size, fun b hb h1 h2 => by
    have e := h.blk b hb h1 h2
    exact (k.blk b (Nat.lt_of_lt_of_le hb h.size) h1 fun cs o q => h2 cs o (by rw [← e]; exact q)).trans e⟩
theorem KB.grow {bW base n : Nat} {A B : World} {v : Value} {xs : List Value} (h : A.ownsRow base 51 2 v n xs) (hg : A.grownBy B v.ownBlock) : KB bW A B :=
  ⟨hg.size, fun b hb _ h2 => hg.block b hb fun e => by
    rcases h.2 with ⟨rfl, _⟩ | ⟨g, c, cur, rfl, _, hh, _⟩
    · simp [Value.ownBlock] at e
    · simp only [Value.ownBlock, Option.some.injEq] at e
      subst e
      exact h2 _ _ hh⟩
theorem KB.set {bW : Nat} {A B : World} (hg : A.grownBy B (some bW)) : KB bW A B := ⟨hg.size, fun b hb h1 _ => hg.block b hb fun e => by injection e with e; exact h1 e⟩
theorem KB.obj {bW b : Nat} {A B : World} {cs : Array Value} {T : TypeId} {o : Nat × Nat} (h : KB bW A B) (hx : A.heap[b]? = some (.cells cs T o)) (hb : b ≠ bW) (hT : T ≠ 51) : B.heap[b]? = some (.cells cs T o) :=
  (h.blk b (Array.getElem?_eq_some_iff.1 hx).1 hb fun _ _ => cells_ty hx hT).trans hx
theorem KB.row {bW base k : Nat} {A B : World} {T : TypeId} {v : Value} {n : Nat} {xs : List Value} (h : KB bW A B) (hr : A.ownsRow base T k v n xs) (hT : T ≠ 51) (hW : ∀ cs o, A.heap[bW]? ≠ some (.cells cs T o)) : B.ownsRow base T k v n xs := by
  obtain ⟨h1, h2⟩ := hr
  refine ⟨h1, ?_⟩
  rcases h2 with h2 | ⟨g, cap, cur, e1, e2, e3, e4⟩
  · exact Or.inl h2
  · exact Or.inr ⟨g, cap, cur, e1, e2, h.obj e3 (fun e => by subst e; exact hW _ _ e3) hT, e4⟩
/-- Whole's state while it lists the balances. -/
structure VF (w : World) (bZ bW : Nat) (gf : Int → Int) (K : Int → Bool) (el : Int) (vd kv : Value) (ds : List Dif) (ks : List Int) (lv : Value) (bs : List Blc) (W : World) : Prop where
  q : W.heap[bZ + 1]? = some (.cells #[.map (some bZ)] 73 (0, 0))
  z : MapZ W bZ 500 gf K
  box : W.heap[bW]? = some (.cells #[lv, .int .i64 el, vd] 47 (0, 0))
  own : W.ownsRow (bW + 1) 51 2 lv bs.length (cellsL balC bs)
  keys : W.ownsRow w.heap.size 3 1 kv ks.length (cellsL keyC ks)
  dif : W.ownsRow w.heap.size 35 5 vd ds.length (cellsL difC ds)
  res : W.heap[w.heap.size + 1]? = some (.cells #[.slice none 0 0, .int .i64 0, .slice none 0 0] 47 (0, 0))
  old : Below w.heap.size w W
theorem VF.below {w : World} {bZ bW : Nat} {gf : Int → Int} {K : Int → Bool} {el : Int} {vd kv : Value} {ds : List Dif} {ks : List Int} {lv : Value} {bs : List Blc} {A B : World} (h : VF w bZ bW gf K el vd kv ds ks lv bs A) (hb : Below A.heap.size A B) : VF w bZ bW gf K el vd kv ds ks lv bs B :=
  ⟨obj_below h.q hb, h.z.below hb, obj_below h.box hb, ownsRow_below h.own hb, ownsRow_below h.keys hb, ownsRow_below h.dif hb, obj_below h.res hb, h.old.trans (hb.mono h.old.size)⟩
theorem VF.put {w : World} {bZ bW : Nat} {gf : Int → Int} {K : Int → Bool} {el : Int} {vd kv : Value} {ds : List Dif} {ks : List Int} {lv : Value} {bs bs2 : List Blc} {A A1 M : World} {a : Option Addr} {n c : Nat} (h : VF w bZ bW gf K el vd kv ds ks lv bs A) (hb : Below A.heap.size A A1) (h1 : A1.grownBy M lv.ownBlock) (ho : M.ownsRow (bW + 1) 51 2 (.slice a n c) bs2.length (cellsL balC bs2)) (hne : bZ + 1 ≠ bW ∧ w.heap.size + 1 ≠ bW ∧ bZ ≠ bW ∧ w.heap.size ≤ bW) :
    VF w bZ bW gf K el vd kv ds ks (.slice a n c) bs2 (M.setCell ⟨bW, 0, none⟩ (.slice a n c)) := by
  have h2 := h.below hb
  have hgs : M.grownBy (M.setCell ⟨bW, 0, none⟩ (.slice a n c)) (some bW) := setCell_grown _ _
  have k1 : KB bW A1 M := KB.grow h2.own h1
  have k2 := k1.trans (KB.set hgs)
  have hbM : M.heap[bW]? = some (.cells #[lv, .int .i64 el, vd] 47 (0, 0)) := by
    refine (h1.block bW (obj_lt h2.box) fun e => ?_).trans h2.box
    have := ownBlock_le h2.own bW e.symm
    omega
  refine ⟨k2.obj h2.q hne.1 (by decide), ?_, ?_, ?_, k2.row h2.keys (by decide) fun _ _ => cells_ty h2.box (by decide), k2.row h2.dif (by decide) fun _ _ => cells_ty h2.box (by decide), ?_, ?_⟩
  · obtain ⟨D, ⟨es, clock, hz, F, hs, rfl⟩, h5⟩ := h2.z
    exact ⟨_, ⟨es, clock, (k2.blk bZ (Array.getElem?_eq_some_iff.1 hz).1 hne.2.2.1 fun cs o e => by rw [hz] at e; simp at e).trans hz, F, hs, rfl⟩, h5⟩
  · have := obj_set hbM 0 (.slice a n c)
    simp only [List.setIfInBounds_toArray, List.set_cons_zero] at this
    exact this
  · exact ho.kept hgs (ownBlock_ne ho bW (Nat.lt_succ_self _))
  · exact k2.obj h2.res hne.2.1 (by decide)
  · exact (h2.old.grown h1 h2.old.size fun j e => by have := ownBlock_le h2.own j e; omega).grown hgs (Nat.le_trans h2.old.size h1.size) fun j e => by injection e with e; omega
def WhPost (d : Int) (l : List Pst) (g : List Int) (w : World) (e : Ending) (w' : World) : Prop := ∃ vb vd, e = .returned (.tuple #[.agg #[vb, .int .i64 (elimQ d l (eachQ g (refsM l))), vd], .int .i64 0]) ∧ w'.ownsRow w.heap.size 51 2 vb (balsM (wholeM d l g)).length (cellsL balC (balsM (wholeM d l g))) ∧ w'.ownsRow w.heap.size 35 5 vd (difL d l (eachQ g (refsM l))).length (cellsL difC (difL d l (eachQ g (refsM l)))) ∧ Below w.heap.size w w'

set_option maxRecDepth 100000 in
set_option maxHeartbeats 16000000 in
theorem csWhole_right {l : List Pst} (h : LdgOk l) {g : List Int} (hgo : GrpOk g) (d : Int) (hd : 0 ≤ d ∧ d ≤ 36000) (vl vg : Value) (w : World) (hl : PstsAt w vl l) (hg : ListAt intC 1 w vg g) :
    Calls Try.prog 20 #[.agg #[vl], vg, .int .i64 d] w (WhPost d l g w) := by
  obtain ⟨i0, hi0, hz0, hz1, hz2⟩ := info_parts Try.infoBal
  have HEX := Lib.hid (fun W (hW : Below w.heap.size w W) => csExplain_right h hgo d hd vl vg W (hl.below hW) (hg.below hW))
  unfold ExPost at HEX
  have HBL := Lib.hid (fun e W (hW : Below w.heap.size w W) => lgBalances_right h e d vl W (hl.below hW))
  obtain ⟨ds, hds⟩ : ∃ ds, ds = difL d l (eachQ g (refsM l)) := ⟨_, rfl⟩
  rw [← hds] at HEX
  obtain ⟨ag, cg, rfl, hcg, hgs⟩ := hg.shape intF
  have hgp : 0 < g.length := List.length_pos_iff.2 hgo.ne
  obtain ⟨bg, og, rfl, hbg, hgc⟩ := hgs hgp
  have HGC : Hid (∀ W, Below w.heap.size w W → ∀ i (hi : i < g.length), W.cell? ⟨bg, og + i, none⟩ = some (.int .i64 g[i])) := Lib.hid fun W hW i hi => by
    have := (hW.cell (p := ⟨bg, og + i * 1 + 0, none⟩) hbg).trans (hgc i hi 0 (by omega))
    simpa [intC] using this
  have hgl := hgo.len
  obtain ⟨ng, hng⟩ : ∃ n, n = g.length := ⟨_, rfl⟩
  have HNG := Lib.hid hng
  rw [← hng] at hcg hgl hgp HEX hg ⊢
  have HL := Lib.hid hl
  have HGR := Lib.hid hg
  have HOK := Lib.hid h
  have HGO := Lib.hid hgo
  have HDS := Lib.hid hds
  obtain ⟨w0, hw0⟩ : ∃ W, W = (w.alloc (.cells #[vl] 27)).alloc (.cells #[.slice none 0 0, .int .i64 0, .slice none 0 0] 47) := ⟨_, rfl⟩
  have HB0 : Hid (Below w.heap.size w w0) := Lib.hid (by rw [hw0]; exact (below_alloc _ _).trans ((below_alloc _ _).mono (by simp)))
  have HX0 : Hid (w0.heap[w.heap.size]? = some (.cells #[vl] 27 (0, 0))) := Lib.hid (by rw [hw0]; exact obj_below (heap_alloc_new _ _) (below_alloc _ _))
  have HR0 : Hid (w0.heap[w.heap.size + 1]? = some (.cells #[.slice none 0 0, .int .i64 0, .slice none 0 0] 47 (0, 0))) := Lib.hid (by rw [hw0]; have := heap_alloc_new (w.alloc (.cells #[vl] 27)) (.cells #[.slice none 0 0, .int .i64 0, .slice none 0 0] 47); simpa using this)
  have hx0 := HX0.out
  have s0 := obj_cell hx0 0
  simp at s0
  unfold WhPost
  have hmm := @run_makeMap Try.prog
  clear h hgo hl hg hng hgs hgc hx0 hds
  go_enter Try.func20, Try.ntmps20
  go_upto_region 1 with fail
  rw [← hw0]
  clear hw0
  go_wp2_with fail
  refine (HEX.out _ HB0.out).mono ?_
  rintro e w1 ⟨vd, rfl, hod, hb1⟩
  have HB1 := Lib.hid (HB0.out.trans (hb1.mono HB0.out.size))
  have HX1 := Lib.hid (obj_below HX0.out hb1)
  have HR1 := Lib.hid (obj_below HR0.out hb1)
  have HD1 := Lib.hid (ownsRow_mono hod HB0.out.size)
  obtain ⟨ad, cd, rfl, -, -⟩ := owns_gen hod
  obtain ⟨bZ, hbZ⟩ : ∃ b, b = w1.heap.size := ⟨_, rfl⟩
  obtain ⟨w2, hw2⟩ : ∃ W, W = (w1.alloc (.map #[] 0)).alloc (.cells #[.map (some bZ)] 73) := ⟨_, rfl⟩
  have HB2 : Hid (Below w1.heap.size w1 w2) := Lib.hid (by rw [hw2]; exact (below_alloc _ _).trans ((below_alloc _ _).mono (by simp)))
  have HQ2 : Hid (w2.heap[bZ + 1]? = some (.cells #[.map (some bZ)] 73 (0, 0))) := Lib.hid (by rw [hw2, hbZ]; have := heap_alloc_new (w1.alloc (.map #[] 0)) (.cells #[.map (some w1.heap.size)] 73); simpa using this)
  have HM2 : Hid (MapZ w2 bZ 500 (fun _ => 0) (fun _ => false)) := Lib.hid (by rw [hw2, hbZ]; exact ((MapZ.made w1).below (below_alloc _ _)).mono (by omega))
  have HLZ : Hid (w.heap.size + 1 < bZ) := Lib.hid (by rw [hbZ]; exact obj_lt HR1.out)
  have HX2 := Lib.hid (obj_below HX1.out HB2.out)
  have HR2 := Lib.hid (obj_below HR1.out HB2.out)
  have HD2 := Lib.hid (ownsRow_below HD1.out HB2.out)
  have HBW2 := Lib.hid (HB1.out.trans (HB2.out.mono HB1.out.size))
  clear hod hb1 s0 HEX HX0 HR0 HB0 HX1 HR1 HD1
  go_upto_region 5 with fail
  rw [← hbZ, ← hw2]
  have HV2 : Hid (VL w bZ (fun _ => 0) (fun _ => false) vl (.slice ad ds.length cd) ds w2) := Lib.hid ⟨HQ2.out, HM2.out, fun x hx => by simp at hx, HD2.out, HX2.out, HR2.out, HBW2.out⟩
  clear hbZ hw2 hmm HQ2 HM2 HD2 HX2 HR2 HBW2 HB2 HB1
  go_wp2
  go_loopw [32] (fun iv wr => ∃ i : Nat, iv = .int .i64 (i : Int) ∧ i ≤ ng ∧ Hid (∃ K, VL w bZ (fun t => grpM d l t (g.take i)) K vl (.slice ad ds.length cd) ds wr)) (fun iv _ => ng - (RowKit.intOf iv).toNat)
  case atStart => exact ⟨0, rfl, by omega, Lib.hid ⟨_, HV2.out⟩⟩
  case round =>
    clear HV2
    obtain ⟨i, rfl, hi, HV⟩ := hrel
    by_cases hil : i < ng
    · have hilg : i < g.length := by rw [← HNG.out]; exact hil
      obtain ⟨K, HVK0⟩ := HV.out
      have HVK := Lib.hid HVK0
      have c0 := HGC.out _ HVK.out.old i hilg
      have HTK : Hid (∀ t, grpM d l t (g.take (i + 1)) = grpM d l t (g.take i) + ofM g[i] (fun x => decide (x ≤ d)) t l) := Lib.hid fun t => by rw [List.take_succ_eq_append_getElem hilg, grpM_app]; simp [grpM]
      have hwi : IntKind.i64.wrap ((i : Int) + 1) = (i : Int) + 1 := IntWalk.i64_in _ (by omega)
      have hi0 : (0 : Int) ≤ (i : Int) := by omega
      have hi1 : (i : Int) < (ng : Int) := by omega
      generalize g[i] = e0 at c0 HTK
      have hled := HVK.out.led
      have s1 := obj_cell hled 0
      simp at s1
      clear HVK0 hled hilg HV
      go_wp2_with fail
      refine (HBL.out e0 _ HVK.out.old).mono ?_
      rintro e w3 ⟨u, rfl, hou, hb3⟩
      have HV3 := Lib.hid (HVK.out.below hb3)
      have HVB : Hid (∀ t, valB t (balsM fun x => ofM e0 (byDay d) x l) = ofM e0 (fun x => decide (x ≤ d)) t l) := Lib.hid fun t => valB_all HOK.out e0 t
      have HBI := Lib.hid (bal_in HOK.out e0 d)
      have hbl := bals_len (fun x => ofM e0 (byDay d) x l)
      obtain ⟨bs, hbs⟩ : ∃ bs, bs = balsM fun x => ofM e0 (byDay d) x l := ⟨_, rfl⟩
      rw [← hbs] at hou HVB HBI hbl
      have HOU := Lib.hid (ownsRow_mono hou HVK.out.old.size)
      obtain ⟨au, cu, rfl, -, -⟩ := owns_gen hou
      have HGB : Hid (∀ t, -4000000000000000 ≤ grpM d l t (g.take i) ∧ grpM d l t (g.take i) ≤ 4000000000000000) := Lib.hid fun t => by
        have h1 := grp_bound HOK.out d t (g.take i)
        have h2 : (g.take i).length ≤ 10 := by rw [List.length_take]; have := HNG.out; omega
        omega
      clear hou hb3 hbs s1 c0 HVK
      go_wp2
      go_loopw [41] (fun kv wr => ∃ k : Nat, kv = .int .i64 (k : Int) ∧ k ≤ bs.length ∧ Hid (∃ K, VL w bZ (fun t => grpM d l t (g.take i) + valB t (bs.take k)) K vl (.slice ad ds.length cd) ds wr) ∧ Hid (wr.ownsRow w.heap.size 51 2 (.slice au bs.length cu) bs.length (cellsL balC bs))) (fun kv _ => bs.length - (RowKit.intOf kv).toNat)
      case atStart => exact ⟨0, rfl, by omega, Lib.hid ⟨K, by simpa [valB] using HV3.out⟩, HOU⟩
      case round =>
        clear HV3 HOU
        obtain ⟨k, rfl, hk, HVX, HO⟩ := hrel
        by_cases hkl : k < bs.length
        · obtain ⟨K4, HV40⟩ := HVX.out
          have HV4 := Lib.hid HV40
          obtain ⟨a5, c5, e5, _, h5⟩ := (ListAt.owns HO.out).shape balF
          injection e5 with e5 _ e6
          subst e5 e6
          obtain ⟨b1, o1, rfl, hb1, hcc⟩ := h5 (by omega)
          have hcb := hcc k hkl
          have hbi := HBI.out _ (List.getElem_mem hkl)
          have hvs := fun t => valB_snoc t (bs.take k) bs[k]
          rw [← List.take_succ_eq_append_getElem hkl] at hvs
          have hvb := fun t => valB_bound (B := 400000000000000) (t := t) (by omega) (l := bs.take k) fun b hb => (HBI.out b (List.mem_of_mem_take hb)).2
          have htl : (bs.take k).length ≤ 500 := by rw [List.length_take]; omega
          have HVS := Lib.hid hvs
          generalize bs[k] = x at hcb hbi HVS
          obtain ⟨x0, x1⟩ := x
          simp only at hbi HVS
          obtain ⟨gf, hgf⟩ : ∃ gf : Int → Int, gf = fun t => grpM d l t (g.take i) + valB t (bs.take k) := ⟨_, rfl⟩
          have hgx : -1000000000000000000 ≤ gf x0 ∧ gf x0 ≤ 1000000000000000000 := by
            rw [hgf]
            have h1 := HGB.out x0
            have h2 := hvb x0
            simp only
            omega
          rw [← hgf] at HV4
          have HGF := Lib.hid hgf
          have d0 : wr.cell? ⟨b1, o1 + k * 2, none⟩ = some (.int .i64 x0) := hcb 0 (by omega)
          have d1 : wr.cell? ⟨b1, o1 + k * 2 + 1, none⟩ = some (.int .i64 x1) := hcb 1 (by omega)
          have hwk : IntKind.i64.wrap ((k : Int) + 1) = (k : Int) + 1 := IntWalk.i64_in _ (by omega)
          have hwg : IntKind.i64.wrap (gf x0 + x1) = gf x0 + x1 := IntWalk.i64_in _ (by omega)
          have hk0 : (0 : Int) ≤ (k : Int) := by omega
          have hk1 : (k : Int) < (bs.length : Int) := by omega
          have HBX := below_alloc wr (.cells #[.int .i64 x0, .int .i64 x1] 51)
          have HVN := Lib.hid (HV4.out.below HBX)
          have HON := Lib.hid (ownsRow_below HO.out HBX)
          have hxn := heap_alloc_new wr (.cells #[.int .i64 x0, .int .i64 x1] 51)
          obtain ⟨bX, hbX⟩ : ∃ b, b = wr.heap.size := ⟨_, rfl⟩
          obtain ⟨wN, hwN⟩ : ∃ W, W = wr.alloc (.cells #[.int .i64 x0, .int .i64 x1] 51) := ⟨_, rfl⟩
          rw [← hwN] at HVN HON hxn
          rw [← hbX] at hxn
          have y0 := obj_cell hxn 0
          have y1 := obj_cell hxn 1
          have q0 := obj_cell HVN.out.q 0
          simp at y0 y1 q0
          clear hcc hcb hvs hvb htl hxn HBX HV40 HVX hgf hb1 h5
          go_upto_region 11 with fail
          rw [← hwN, ← hbX]
          clear hwN hbX d0 d1
          go_wp2_with (first
            | (at_lookup; refine wpList_look_Z rfl _ _ rfl _ _ _ _ rfl HVN.out.z x0 rfl (by omega) (by omega) ?_)
            | (at_mapUpdate; refine wpList_store_Z rfl _ _ _ rfl _ _ _ _ rfl HVN.out.z (by unfold maxLen; omega) x0 (gf x0 + x1) rfl rfl (by omega) (by omega) (by omega) (by omega) ?_; intro w5 hm5 hgr5))
          have HK5 : Hid (InKeys (fun t => decide (t = x0) || K4 t)) := Lib.hid fun t ht => by
            simp only [Bool.or_eq_true, decide_eq_true_eq] at ht
            rcases ht with rfl | ht
            · exact hbi.1
            · exact HVN.out.kr t ht
          have HV5 : Hid (∃ K, VL w bZ (fun t => grpM d l t (g.take i) + valB t (bs.take (k + 1))) K vl (.slice ad ds.length cd) ds w5) := Lib.hid ⟨_, HVN.out.store (by have := HLZ.out; omega) hgr5 (hm5.congr (fun t => by
            rw [HVS.out t, HGF.out]
            simp only
            by_cases e : t = x0
            · subst e; rw [if_pos rfl, if_pos rfl]; omega
            · rw [if_neg e, if_neg (fun q => e q.symm)]; omega) (fun _ => rfl)) HK5.out⟩
          have HO5 := Lib.hid (own_kept_map HON.out hgr5 fun _ _ _ => HVN.out.z.noCells)
          clear hm5 hgr5 y0 y1 q0
          go_wp2
          go_roundw
          case rel => exact ⟨k + 1, by first | rfl | go_num, by omega, HV5, HO5⟩
          case measure => simp [RowKit.intOf]; omega
        · obtain rfl : k = bs.length := by omega
          have HVY : Hid (∃ K, VL w bZ (fun t => grpM d l t (g.take (i + 1))) K vl (.slice ad ds.length cd) ds wr) := Lib.hid (by
            obtain ⟨K5, h5⟩ := HVX.out
            rw [List.take_length] at h5
            refine ⟨K5, ?_⟩
            have : (fun t => grpM d l t (g.take (i + 1))) = fun t => grpM d l t (g.take i) + valB t bs := by
              funext t
              rw [HTK.out, HVB.out]
            rw [this]
            exact h5)
          clear HVX HO
          go_wp2
          go_roundw
          case rel => exact ⟨i + 1, by first | rfl | go_num, by omega, HVY⟩
          case measure => simp [RowKit.intOf]; omega
    · obtain rfl : i = ng := by omega
      have HVF : Hid (∃ K, VL w bZ (fun t => grpM d l t g) K vl (.slice ad ds.length cd) ds wr) := Lib.hid (by
        have h := HV.out
        rw [HNG.out, List.take_length] at h
        exact h)
      obtain ⟨K, HV00⟩ := HVF.out
      have HV0 := Lib.hid HV00
      obtain ⟨bW, hbW⟩ : ∃ b, b = wr.heap.size := ⟨_, rfl⟩
      obtain ⟨w4, hw4⟩ : ∃ W, W = wr.alloc (.cells #[.slice none 0 0, .int .i64 0, .slice ad ds.length cd] 47) := ⟨_, rfl⟩
      have HBX4 : Hid (Below wr.heap.size wr w4) := Lib.hid (by rw [hw4]; exact below_alloc _ _)
      have HV4 := Lib.hid (HV0.out.below HBX4.out)
      have HXW : Hid (w4.heap[bW]? = some (.cells #[.slice none 0 0, .int .i64 0, .slice ad ds.length cd] 47 (0, 0))) := Lib.hid (by rw [hw4, hbW]; exact heap_alloc_new _ _)
      have HLW : Hid (w.heap.size + 1 < bW ∧ bZ + 1 < bW ∧ w4.heap.size = bW + 1) := Lib.hid (by have h1 := HLZ.out; have h2 := obj_lt HV0.out.q; exact ⟨by omega, by omega, by rw [hw4, hbW]; simp⟩)
      have hl4 := HV4.out.led
      have s4 := obj_cell hl4 0
      simp at s4
      clear HV00 hl4 HV HVF
      go_upto_region 15 with fail
      rw [← hw4, ← hbW]
      clear hw4 hbW
      have HEA := Lib.hid (cseach2_any HOK.out HGO.out d 34 (.pointer (some ⟨bZ + 1, 0, none⟩)) (.pointer (some ⟨bW, 0, none⟩)) (enters_of Try.func34 (by kernel_rfl) rfl) vl (.slice (some ⟨bg, og, none⟩) i cg) w4 (HL.out.below HV4.out.old) (VI w (bZ + 1) bZ bW (.slice ad ds.length cd) (.slice (some ⟨bg, og, none⟩) i cg) g d l ds)
        (fun W hW => ⟨⟨K, obj_below HV4.out.q hW, (HV4.out.z.below hW).congr (fun t => by simp [elAc]) (fun _ => rfl), HV4.out.kr, obj_below HXW.out hW⟩, ownsRow_below HV4.out.dif hW, HV4.out.old.trans (hW.mono HV4.out.old.size), HGR.out.below (HV4.out.old.trans (hW.mono HV4.out.old.size)), ⟨HLZ.out, HLW.out.1⟩, obj_below HV4.out.res hW⟩)
        (fun qs W hW => hW.grp)
        (fun qs W W' hW hb => by
          obtain ⟨K', h1⟩ := hW.wi
          exact ⟨⟨K', h1.below hb⟩, ownsRow_below hW.dif hb, hW.old.trans (hb.mono hW.old.size), hW.grp.below hb, hW.lo, obj_below hW.res hb⟩)
        (fun qs q W hq hW hsz => by
          obtain ⟨K', h1⟩ := hW.wi
          have hall : ∀ x ∈ qs ++ [q], x.m = mut1 ∨ x.m = mut2 := fun x hx => (mem_eachQ (hq.subset hx)).1
          have hm := hall q (by simp)
          have b1 := ownQ_bound (d := d) HOK.out.mem hm
          have b2 := othQ_bound (d := d) HOK.out.mem hm
          have hl4 := HOK.out.len
          have hpre : qs <+: eachQ g (refsM l) := (List.prefix_append qs [q]).trans hq
          have hel := elim_in (d := d) HOK.out.mem hl4 HGO.out.asc (refsM_asc l) hpre
          have hac := fun t => elAc_in (d := d) (t := t) HOK.out.mem (qs := qs) fun x hx => hall x (List.mem_append_left _ hx)
          have hgb := fun t => grp_bound HOK.out d t g
          have hgl2 := HGO.out.len
          have hcl := csWholeC_ok q.m hm q.a q.b q.r (ownQ d l q) (othQ d l q) (bZ + 1) bZ bW (fun t => grpM d l t g + elAc d l t qs) K' (elimQ d l qs) (.slice ad ds.length cd) W h1 (by omega) (by omega) (fun t => by have := hac t; have := hgb t; omega) (by omega) (minQ d l q) rfl (fun t => grpM d l t g + elAc d l t (qs ++ [q])) (fun t => by rw [elAc_app]; simp only [elAc]; omega)
          refine hcl.mono fun e W' hh => ?_
          obtain ⟨he, K2, M, h2, h3, h4⟩ := hh
          obtain ⟨n1, n2, n3⟩ := h1.ne
          have hbM : M.heap[bW]? = some (.cells #[.slice none 0 0, .int .i64 (elimQ d l qs), .slice ad ds.length cd] 47 (0, 0)) := (h3.block bW (obj_lt h1.b) (fun e => by injection e with e; exact n2 e)).trans h1.b
          have hdM := own_kept_map hW.dif h3 fun _ _ _ => h1.z.noCells
          have hold : Below w.heap.size w W' := (hW.old.grown h3 hW.old.size fun j e => by injection e with e; have := hW.lo.1; omega).grown h4 (Nat.le_trans hW.old.size h3.size) fun j e => by injection e with e; have := hW.lo.2; omega
          refine ⟨he, ⟨⟨K2, ?_⟩, dif_kept hdM h4 fun cs o => cells_ty hbM (by decide), hold, HGR.out.below hold, hW.lo, (h4.block _ (Nat.lt_of_lt_of_le (obj_lt hW.res) h3.size) (fun e => by injection e with e; have := hW.lo.2; omega)).trans ((h3.block _ (obj_lt hW.res) (fun e => by injection e with e; have := hW.lo.1; omega)).trans hW.res)⟩, Nat.le_trans h3.size h4.size, fun b hb1 hb2 _ => ?_⟩
          · rw [elimQ_app]
            simpa [elimQ] using h2
          · have := HLW.out
            exact (h4.block b (Nat.lt_of_lt_of_le hb2 h3.size) (fun e => by injection e with e; omega)).trans (h3.block b hb2 (fun e => by injection e with e; omega))))
      go_wp2_with fail
      refine HEA.out.mono ?_
      rintro e w5 ⟨rfl, hX5⟩
      obtain ⟨K5, hw5⟩ := hX5.wi
      have HW5 := Lib.hid hw5
      have HD5 := Lib.hid hX5.dif
      have HB5 := Lib.hid hX5.old
      have HR5 := Lib.hid hX5.res
      clear hX5 hw5 HEA s4 HV4 HXW HV0 HBX4
      have q5 := obj_cell HW5.out.q 0
      simp at q5
      obtain ⟨gf, hgf⟩ : ∃ gf : Int → Int, gf = fun t => grpM d l t g + elAc d l t (eachQ g (refsM l)) := ⟨_, rfl⟩
      obtain ⟨el, hel⟩ : ∃ el, el = elimQ d l (eachQ g (refsM l)) := ⟨_, rfl⟩
      have HGW : Hid (wholeM d l g = gf) := Lib.hid (by rw [hgf]; rfl)
      rw [← hgf, ← hel] at HW5
      have HDL : Hid (difL d l (eachQ g (refsM l)) = ds) := Lib.hid HDS.out.symm
      have HEL := Lib.hid hel
      clear hgf hel
      go_wp2_with fail
      refine (mapsKeys_any _ _).mono ?_
      rintro e w5' ⟨rfl, rfl⟩
      have HBX := Lib.hid (heap_alloc_new w5 (.cells #[.map (some bZ)] 73))
      have HBA := Lib.hid (below_alloc w5 (.cells #[.map (some bZ)] 73))
      have HM5 := Lib.hid (HW5.out.z.below HBA.out)
      have HSO := Lib.hid (slSorted_any bZ _ w5.heap.size gf K5 _ HM5.out (by omega) HW5.out.kr HBX.out)
      go_wp2_with fail
      refine (HSO.out).mono ?_
      rintro e w6 ⟨kv, rfl, hko, hb6⟩
      have HKZ : Hid (balsM gf = balsOf gf (acctsM.filter K5)) := Lib.hid (balsOf_filter (fun x hx => HW5.out.z.zero hx) _).symm
      obtain ⟨ks, hks⟩ : ∃ ks, ks = acctsM.filter K5 := ⟨_, rfl⟩
      rw [← hks] at hko HKZ
      have hkl : ks.length ≤ 500 := by
        rw [hks]
        have h1 := List.length_filter_le K5 acctsM
        have h2 : acctsM.length = 500 := by unfold acctsM; simp
        omega
      have HKM : Hid (∀ x ∈ ks, 100 ≤ x ∧ x ≤ 599) := Lib.hid fun x hx => by rw [hks] at hx; exact mem_acctsM.1 (List.mem_filter.1 hx).1
      rw [← keyCells] at hko
      have HB56 : Hid (Below w5.heap.size w5 w6) := Lib.hid (HBA.out.trans (hb6.mono HBA.out.size))
      obtain ⟨ak, ck, rfl, hck, -⟩ := owns_gen hko
      have HVF : Hid (VF w bZ bW gf K5 el (.slice ad ds.length cd) (.slice ak ks.length ck) ds ks (.slice none 0 0) [] w6) := Lib.hid (by
        refine ⟨obj_below HW5.out.q HB56.out, HW5.out.z.below HB56.out, obj_below HW5.out.b HB56.out, World.ownsRow_nil _ _ _ _, ownsRow_mono hko (by have := HB5.out.size; have := HBA.out.size; omega), ownsRow_below HD5.out HB56.out, obj_below HR5.out HB56.out, HB5.out.trans (HB56.out.mono HB5.out.size)⟩)
      clear hko hb6 hks HBX HBA HM5 HSO HW5 HD5 HB5 HB56 HR5 q5
      go_wp2
      go_loopw [65] (fun kv wr => ∃ (k : Nat) (a : Option Addr) (n c : Nat), kv = .int .i64 (k : Int) ∧ k ≤ ks.length ∧ Hid (VF w bZ bW gf K5 el (.slice ad ds.length cd) (.slice ak ks.length ck) ds ks (.slice a n c) (balsOf gf (ks.take k)) wr)) (fun kv _ => ks.length - (RowKit.intOf kv).toNat)
      case atStart => exact ⟨0, none, 0, 0, rfl, by omega, HVF⟩
      case round =>
        clear HVF
        obtain ⟨k, a, n, c, rfl, hk, HF⟩ := hrel
        by_cases hkl2 : k < ks.length
        · obtain ⟨a5, c5, e5, _, h5⟩ := (ListAt.owns HF.out.keys).shape keyF
          injection e5 with e5 _ e6
          subst e5 e6
          obtain ⟨b1, o1, rfl, hb1, hcc⟩ := h5 (by omega)
          have hcb := hcc k hkl2 0 (by omega)
          have HTK : Hid (ks.take (k + 1) = ks.take k ++ [ks[k]]) := Lib.hid (List.take_succ_eq_append_getElem hkl2)
          have hxr := HKM.out ks[k] (List.getElem_mem hkl2)
          generalize ks[k] = x at hcb HTK hxr
          have HBN : Hid (balsOf gf (ks.take (k + 1)) = if gf x = 0 then balsOf gf (ks.take k) else balsOf gf (ks.take k) ++ [⟨x, gf x⟩]) := Lib.hid (by rw [HTK.out, balsOf_snoc])
          have hll := balsOf_length gf (ks.take k)
          obtain ⟨bs, hbs⟩ : ∃ bs, bs = balsOf gf (ks.take k) := ⟨_, rfl⟩
          rw [← hbs] at HF hll HBN
          have hll2 : bs.length ≤ 500 := by rw [List.length_take] at hll; omega
          have c0 : wr.cell? ⟨b1, o1 + k, none⟩ = some (.int .i64 x) := by simpa [keyC, encZ] using hcb
          have q0 := obj_cell HF.out.q 0
          have z0 := obj_cell HF.out.box 0
          have zf0 := obj_free HF.out.box 0
          simp at q0 z0
          have hwk : IntKind.i64.wrap ((k : Int) + 1) = (k : Int) + 1 := IntWalk.i64_in _ (by omega)
          have hk0 : (0 : Int) ≤ (k : Int) := by omega
          have hk1 : (k : Int) < (ks.length : Int) := by omega
          have hrr := HF.out.old.size
          have hlw := HLW.out
          have hbl := obj_lt HF.out.box
          clear hcc hcb hbs hll HTK h5 hb1
          by_cases hz : gf x = 0
          · have hzb : (gf x != 0) = false := by simp [hz]
            have HZ : Hid (gf x = 0) := Lib.hid hz
            clear hz
            go_wp2_with (at_lookup; refine wpList_look_Z rfl _ _ rfl _ _ _ _ rfl HF.out.z x rfl (by omega) (by omega) ?_)
            go_roundw
            case rel => exact ⟨k + 1, a, n, c, by first | rfl | go_num, by omega, by rw [HBN.out, if_pos HZ.out]; exact HF⟩
            case measure => simp [RowKit.intOf]; omega
          · have hzb : (gf x != 0) = true := by simp [hz]
            have HZ : Hid (¬ gf x = 0) := Lib.hid hz
            have hown := HF.out.own
            have hne : Hid (bZ + 1 ≠ bW ∧ w.heap.size + 1 ≠ bW ∧ bZ ≠ bW ∧ w.heap.size ≤ bW) := Lib.hid (by omega)
            clear hz
            go_wp2_with (first
              | (at_lookup; first | refine wpList_look_Z rfl _ _ rfl _ _ _ _ rfl HF.out.z x rfl (by omega) (by omega) ?_)
              | (at_builtin; refine wpList_append_own _ rfl _ _ 45 rfl (bW + 1) 51 i0 (.agg #[.int .i64 0, .int .i64 0]) 2 16 Try.underlying45 hi0 hz0 hz1 hz2 rfl (by decide) _ _ _ rfl (hown.alloc _) ⟨wr.heap.size, 0, none⟩ 1 1 (balC ⟨x, gf x⟩) rfl rfl (new_cells _ _ _ _ rfl) (balF.one _) (by unfold maxLen; omega) (by omega) (by simp; omega) ?_; intro v' w9 hown9 hgr9 _; (have HO9 := Lib.hid hown9); (have hbx9 := (hgr9.block bW (by simp; omega) (fun e => by have := ownBlock_le hown _ e.symm; omega)).trans (obj_below HF.out.box (below_alloc wr _))); (have u9 := obj_cell hbx9 0); (have uf9 := obj_free hbx9 0); (simp at u9); (obtain ⟨ao', cap', rfl, hcap', -⟩ := owns_gen hown9); (have HG9 := Lib.hid hgr9); (have HX9 := Lib.hid hbx9); clear hown9 hgr9 hbx9 z0 zf0))
            have HV9 : Hid (VF w bZ bW gf K5 el (.slice ad ds.length cd) (.slice (some ⟨b1, o1, none⟩) ks.length ck) ds ks (.slice ao' (bs.length + 1) cap') (balsOf gf (ks.take (k + 1))) (w9.setCell ⟨bW, 0, none⟩ (.slice ao' (bs.length + 1) cap'))) := Lib.hid (by
              rw [HBN.out, if_neg HZ.out]
              refine HF.out.put (below_alloc wr _) HG9.out ?_ hne.out
              have h := HO9.out
              rw [cellsL_snoc] at h
              rw [List.length_append]
              exact h)
            go_roundw
            case rel => exact ⟨k + 1, _, _, _, by first | rfl | go_num, by omega, HV9⟩
            case measure => simp [RowKit.intOf]; omega
        · obtain rfl : k = ks.length := by omega
          have HF2 : Hid (VF w bZ bW gf K5 el (.slice ad ds.length cd) (.slice ak ks.length ck) ds ks (.slice a n c) (balsM gf) wr) := Lib.hid (by
            have h := HF.out
            rw [List.take_length] at h
            rw [HKZ.out]
            exact h)
          have z0 := obj_cell HF2.out.box 0
          have z1 := obj_cell HF2.out.box 1
          have z2 := obj_cell HF2.out.box 2
          have y0 := obj_cell HF2.out.res 0
          have y1 := obj_cell HF2.out.res 1
          have y2 := obj_cell HF2.out.res 2
          have yf0 := obj_free HF2.out.res 0
          have yf1 := obj_free HF2.out.res 1
          have yf2 := obj_free HF2.out.res 2
          simp at z0 z1 z2 y0 y1 y2
          have hlw := HLW.out
          have hps := put3_grown wr (w.heap.size + 1) (.slice a n c) (.int .i64 el) (.slice ad ds.length cd)
          have HEND : Hid ((put3 wr (w.heap.size + 1) (.slice a n c) (.int .i64 el) (.slice ad ds.length cd)).ownsRow w.heap.size 51 2 (.slice a n c) (balsM gf).length (cellsL balC (balsM gf)) ∧ (put3 wr (w.heap.size + 1) (.slice a n c) (.int .i64 el) (.slice ad ds.length cd)).ownsRow w.heap.size 35 5 (.slice ad ds.length cd) ds.length (cellsL difC ds) ∧ Below w.heap.size w (put3 wr (w.heap.size + 1) (.slice a n c) (.int .i64 el) (.slice ad ds.length cd))) := Lib.hid ⟨ownsRow_mono (HF2.out.own.kept hps (ownBlock_ne HF2.out.own _ (by omega))) (by omega), dif_kept HF2.out.dif hps fun cs o => cells_ty HF2.out.res (by decide), put3_below HF2.out.old (by omega) _ _ _⟩
          have HRES := Lib.hid HF2.out.res
          clear HF HF2 hps
          go_wp2
          refine ret3 HRES.out rfl _ _ _ (fun F hF => ?_) rfl ⟨.slice a n c, .slice ad ds.length cd, rfl, ?_, ?_, HEND.out.2.2⟩
          · have p0 := obj_cell hF 0
            have p1 := obj_cell hF 1
            have p2 := obj_cell hF 2
            simp at p0 p1 p2
            simp [results, Try.results20, go_sem, p0, p1, p2]
            exact HEL.out
          · rw [HGW.out]; exact HEND.out.1
          · rw [HDL.out]; exact HEND.out.2.1

end Go.Proofs.Ytdbpbmejgdbppaa
