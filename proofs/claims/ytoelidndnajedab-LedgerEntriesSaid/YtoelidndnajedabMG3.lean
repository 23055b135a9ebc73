/- Texts of one claim, merged: OwnO, ClnPst, RegInv, RegT. -/
import Derived.Test.YtoelidndnajedabMG1
import Derived.Maps.AppendAt
import Derived.Lib.AppendZeros
import Derived.Deep.Upon
import Derived.RegionTactic
import Derived.Orders
/- Appends of a whole slice, empty or not, onto a row of the call's own; of no function of the program; no condition. -/
set_option linter.unusedSimpArgs false
set_option linter.unusedVariables false
set_option linter.unusedSimpArgs false
set_option linter.unusedVariables false
namespace Go.Proofs.Ytoelidndnajedab
open Go.RowKit Go.Lib Go.Proofs

/-- An append of a whole slice, empty or not, onto a row of the call's own. -/
theorem run_append_ownO {P : Program} (w : World) (base : Nat) (t ty e : TypeId) (i : TypeInfo) (z : Value) (size bytes : Nat) (ht : P.underlying t = some (.slice e)) (hi : P.info? e = some i) (hz : i.zero = some z)
    (hsize : i.size = size) (hby : i.bytes = bytes) (hzs : z.cells.size = size) (hsz : 0 < size)
    (v : Value) (n : Nat) (xs : List Value) (hown : w.ownsRow base e size v n xs)
    (ao : Option Addr) (m c : Nat) (news : List Value) (hl : news.length = m * size) (hnews : m = 0 ∨ ∃ ad : Addr, ao = some ad ∧ ∀ j u, news[j]? = some u → w.cell? (ad.add j) = some u) (h1 : ∀ u ∈ news, u.oneCell' = true)
    (h63 : n + m ≤ maxLen) (hbytes : (n + m) * bytes ≤ 140737488355328) (hbase : base ≤ w.heap.size) :
    ∃ v' w', (Builtin.append_ #[t, t] ty #[v, .slice ao m c]).run P w = .ok v' w' ∧ w'.ownsRow base e size v' (n + m) (xs ++ news) ∧ w.grownBy w' v.ownBlock := by
  by_cases hm : m = 0
  · subst hm
    have hnl : news = [] := List.length_eq_zero_iff.1 (by omega)
    subst hnl
    obtain ⟨a', cap, rfl, hle, _⟩ := owns_gen hown
    refine ⟨_, w, run_append_nothing w t t ty e i ht hi a' n cap hle (.slice ao 0 c) ?_, by simpa using hown, grownBy_refl w _⟩
    cases ao with
    | none => exact Src.ofNil w ht c
    | some a => exact Src.ofSlice w ht a 0 c [] (by simp) (by simp) (by simp)
  · obtain ⟨ad, rfl, hc⟩ := hnews.resolve_left hm
    obtain ⟨v', w', hr, h2, h3, _⟩ := run_append_own_at (P := P) w base t ty e i z size bytes ht hi hz hsize hby hzs hsz v n xs hown ad m c news hl hc h1 h63 hbytes hbase
    exact ⟨v', w', hr, h2, h3⟩

theorem wpList_ownO {P : Program} (w : World) {ops : Array Oper} {rest : List Oper} {o : Oper} {a : Act} {Q : Exit → Act → World → Prop} (hw : Region.wanted o (yielded ops a.tmps) = true) (s x : Operand) (t : TypeId)
    (ho : o.op = .call { callee := .builtin .append, args := #[s, x], argTypes := #[t, t] })
    (base : Nat) (e : TypeId) (i : TypeInfo) (z : Value) (size bytes : Nat) (ht : P.underlying t = some (.slice e)) (hi : P.info? e = some i) (hz : i.zero = some z)
    (hsize : i.size = size) (hby : i.bytes = bytes) (hzs : z.cells.size = size) (hsz : 0 < size)
    (v : Value) (n : Nat) (xs : List Value) (hs : a.eval s = v) (hown : w.ownsRow base e size v n xs)
    (ao : Option Addr) (m c : Nat) (news : List Value) (hx : a.eval x = .slice ao m c) (hl : news.length = m * size) (hnews : m = 0 ∨ ∃ ad : Addr, ao = some ad ∧ ∀ j u, news[j]? = some u → w.cell? (ad.add j) = some u) (h1 : ∀ u ∈ news, u.oneCell' = true)
    (h63 : n + m ≤ maxLen) (hbytes : (n + m) * bytes ≤ 140737488355328) (hbase : base ≤ w.heap.size)
    (h : ∀ v' w', w'.ownsRow base e size v' (n + m) (xs ++ news) → w.grownBy w' v.ownBlock → wpList P ops Q rest (a.put o.dst v') w') :
    wpList P ops Q (o :: rest) a w :=
  wpList_step fun K hK => by
    rw [if_pos hw]
    obtain ⟨v', w', hr, h2, h3⟩ := run_append_ownO (P := P) w base t o.type e i z size bytes ht hi hz hsize hby hzs hsz v n xs hown ao m c news hl hnews h1 h63 hbytes hbase
    unfold Oper.wp execOp
    simp only [ho, resolve, invoke, builtin, Sem.run_bind, Sem.run_pure, Result.andThen_ok, List.map_toArray, List.map_cons, List.map_nil, hs, hx, hr]
    exact hK _ _ (h v' w' h2 h3)

/-- What a list's slice brings to an append. -/
theorem ListAt.news {α : Type} {f : α → List Value} {m : Nat} (hf : Fields f m) {w : World} {v : Value} {l : List α} (h : ListAt f m w v l) : ∃ ao cap, v = .slice ao l.length cap ∧ (l.length = 0 ∨ ∃ ad : Addr, ao = some ad ∧ ∀ j u, (cellsL f l)[j]? = some u → w.cell? (ad.add j) = some u) := by
  obtain ⟨ao, cap, rfl, hcap, hc⟩ := h.shape hf
  refine ⟨ao, cap, rfl, ?_⟩
  by_cases h0 : l.length = 0
  · exact Or.inl h0
  · obtain ⟨b, o, rfl, hb, hcc⟩ := hc (by omega)
    refine Or.inr ⟨_, rfl, fun j u hj => ?_⟩
    rw [Addr.add_lit]
    have hm : 0 < m := hf.pos
    have hj2 : j < l.length * m := by have := (List.getElem?_eq_some_iff.1 hj).1; rw [cellsL_len hf] at this; exact this
    have hd : j / m < l.length := Nat.div_lt_of_lt_mul (by rw [Nat.mul_comm]; exact hj2)
    have hr : j % m < m := Nat.mod_lt _ hm
    have he : j / m * m + j % m = j := by rw [Nat.mul_comm]; exact Nat.div_add_mod j m
    have h2 := hcc (j / m) hd (j % m) hr
    have h3 := cellsL_get hf l (j / m) (j % m) hd hr
    rw [he] at h3
    rw [show o + j = o + j / m * m + j % m by omega, h2, ← h3, hj]

theorem newsOf {α : Type} {f : α → List Value} {m : Nat} (hf : Fields f m) {w : World} {ao : Option Addr} {n c : Nat} {l : List α} (h : ListAt f m w (.slice ao n c) l) : n = 0 ∨ ∃ ad : Addr, ao = some ad ∧ ∀ j u, (cellsL f l)[j]? = some u → w.cell? (ad.add j) = some u := by
  obtain ⟨ao', c', he, hh⟩ := h.news hf
  simp only [Value.slice.injEq] at he
  obtain ⟨rfl, rfl, rfl⟩ := he
  exact hh

end Go.Proofs.Ytoelidndnajedab

/- slices.Clone at a struct of 8 cells: a new row of the same elements. -/
set_option linter.unusedSimpArgs false
set_option linter.unusedVariables false
namespace Go.Proofs.Ytoelidndnajedab
open Go.RowKit Go.Lib Go.Proofs

theorem Try.infoClnPst : (Try.prog.info? 37).map (fun i => (i.zero, i.size, i.bytes)) = some (some (.agg #[.int .i64 0, .int .i64 0, .int .i64 0, .int .i64 0, .int .i64 0, .int .i64 0, .int .i64 0, .int .i64 0]), 8, 64) := by kernel_rfl
set_option maxHeartbeats 2000000 in
theorem clonePst_any {α : Type} (f : α → List Value) (hf : Fields f 8) (l : List α) (v : Value) (w : World) (h : ListAt f 8 w v l) (hlen : l.length ≤ 1000000) :
    Calls Try.prog 35 #[v] w fun e w' => ∃ v', e = .returned v' ∧ w'.ownsRow w.heap.size 37 8 v' l.length (cellsL f l) ∧ Below w.heap.size w w' := by
  obtain ⟨i0, hi0, hz0, hz1, hz2⟩ := info_parts Try.infoClnPst
  obtain ⟨ao, cap, rfl, hnews⟩ := h.news hf
  have HN := Lib.hid (fun W (hW : Below w.heap.size w W) => newsOf hf (h.below hW))
  have HL := Lib.hid (cellsL_len hf l)
  have HO := Lib.hid (cellsL_one hf l)
  obtain ⟨n, hn⟩ : ∃ n, n = l.length := ⟨_, rfl⟩
  rw [← hn] at hlen HN HL ⊢
  have q22 : ∀ (w : World) (a : Option Addr) (n c n' c' : Nat), (binOp .eql 26 (.slice a n c) (.slice none n' c')).run Try.prog w = .ok (.bool a.isNone) w := fun w a n c n' c' => Lib.run_eql_slice_nil w _ _ a n c n' c' Try.underlying26
  have HLN : Hid (ao = none → l = []) := Lib.hid (fun he => by
    rcases hnews with h0 | ⟨ad, h1, _⟩
    · exact List.length_eq_zero_iff.1 h0
    · rw [he] at h1; cases h1)
  have HN0 : Hid (n = l.length) := Lib.hid hn
  clear hnews h hn
  cases ao with
  | none =>
    obtain rfl := HLN.out rfl
    obtain rfl : n = 0 := HN0.out
    go_enter Try.func35, Try.ntmps35
    go_wp2
    go_ret
    exact ⟨_, rfl, World.ownsRow_nil _ _ _ _, Below.refl _ _⟩
  | some ad =>
    obtain ⟨b, o, el⟩ := ad
    have HB := Lib.hid (below_alloc w (.cells #[] 37))
    go_enter Try.func35, Try.ntmps35
    go_wp2_with (at_builtin; refine wpList_ownO _ rfl _ _ 26 rfl w.heap.size 37 i0 (.agg #[.int .i64 0, .int .i64 0, .int .i64 0, .int .i64 0, .int .i64 0, .int .i64 0, .int .i64 0, .int .i64 0]) 8 64 Try.underlying26 hi0 hz0 hz1 hz2 rfl (by decide) (.slice (some ⟨w.heap.size, 0, none⟩) 0 0) 0 [] rfl (World.ownsRow_made w #[] 0 (Nat.le_refl _) (Nat.zero_le _) rfl) (some ⟨b, o, el⟩) n cap (cellsL f l) rfl HL.out (HN.out _ HB.out) HO.out (by unfold maxLen; omega) (by omega) (by simp) ?_; intro v' w4 hown4 hgr4)
    have hB : Below w.heap.size w w4 := HB.out.grown hgr4 (by simp) (by intro k hk; simp [Value.ownBlock] at hk; omega)
    have HO4 := Lib.hid hown4
    have HB4 := Lib.hid hB
    clear hown4 hB hgr4
    go_wp2
    go_ret
    refine ⟨_, rfl, ?_, HB4.out⟩
    have := HO4.out
    rwa [Nat.zero_add, List.nil_append] at this

end Go.Proofs.Ytoelidndnajedab

/- A region that draws its order, by a condition that each of its operations keeps, whatever came before: no branching over the orders. Of no function of the program; no condition. -/
set_option linter.unusedSimpArgs false
set_option linter.unusedVariables false
namespace Go.Proofs.Ytoelidndnajedab
open Go
section
variable {P : Program} {ops : Array Oper} {Q : Exit → Act → World → Prop} {md : Region.Mode}

def allListed (n : Nat) (listed : Array Bool) : Prop := ∀ i, i < n → listed.getD i false = true
def backwards (md : Region.Mode) (ops : Array Oper) : Bool := (List.range ops.size).all fun i => ((ops[i]?).map fun o => o.after.all fun e => !Region.binds md e || decide (e.on < i)).getD true

theorem ready_mem {listed : Array Bool} {i : Nat} (h : i ∈ Region.ready md ops listed) : i < ops.size ∧ listed.getD i true = false ∧ ∀ o, ops[i]? = some o → ∀ e ∈ o.after, Region.binds md e = true → listed.getD e.on false = true := by
  unfold Region.ready at h
  rw [List.mem_filter] at h
  obtain ⟨h1, h2⟩ := h
  simp only [Bool.and_eq_true, Bool.not_eq_true'] at h2
  refine ⟨List.mem_range.1 h1, h2.1, fun o ho e he hb => ?_⟩
  have h3 := h2.2
  rw [ho] at h3
  simp only [Option.map_some, Option.getD_some] at h3
  have h4 := Array.all_eq_true'.1 h3 e he
  rw [hb] at h4
  simpa using h4

theorem ready_none (hb : backwards md ops = true) {listed : Array Bool} (hs : listed.size = ops.size) (h : Region.ready md ops listed = []) : allListed ops.size listed := by
  intro i
  induction i using Nat.strongRecOn with
  | ind i ih =>
    intro hi
    cases hl : listed.getD i false with
    | true => rfl
    | false =>
      exfalso
      have hmem : i ∈ Region.ready md ops listed := by
        unfold Region.ready
        rw [List.mem_filter]
        refine ⟨List.mem_range.2 hi, ?_⟩
        have h1 : listed.getD i true = false := by
          rw [Array.getD_eq_getD_getElem?] at hl ⊢
          rw [Array.getElem?_eq_getElem (by omega)] at hl ⊢
          simpa using hl
        rw [h1]
        have h2 := List.all_eq_true.1 hb i (List.mem_range.2 hi)
        rw [Array.getElem?_eq_getElem hi] at h2 ⊢
        simp only [Option.map_some, Option.getD_some] at h2 ⊢
        simp only [Bool.not_false, Bool.true_and]
        rw [Array.all_eq_true'] at h2 ⊢
        intro e he
        have h3 := h2 e he
        cases hbe : Region.binds md e with
        | false => rfl
        | true =>
          rw [hbe] at h3
          have h4 : e.on < i := by simpa using h3
          simpa using ih e.on h4 (by omega)
      rw [h] at hmem
      cases hmem

def unlisted (listed : Array Bool) : Nat := listed.toList.countP (fun b => !b)
theorem unlisted_set {listed : Array Bool} {i : Nat} (hi : i < listed.size) (h : listed.getD i true = false) : unlisted (listed.setIfInBounds i true) + 1 = unlisted listed := by
  unfold unlisted
  rw [Array.toList_setIfInBounds]
  have hg : listed.toList[i]'(by simpa using hi) = false := by
    rw [Array.getD_eq_getD_getElem?, Array.getElem?_eq_getElem hi] at h
    simpa using h
  have hi2 : i < listed.toList.length := by simpa using hi
  rw [List.countP_set (h := hi2), hg]
  have hpos : 0 < List.countP (fun b => !b) listed.toList := by
    rw [List.countP_pos_iff]
    exact ⟨false, by rw [← hg]; exact List.getElem_mem hi2, rfl⟩
  simp only [Bool.not_false, if_true, Bool.not_true, Bool.false_eq_true, if_false]
  omega

/-- What is done has all done that it waits for. -/
def closedL (md : Region.Mode) (ops : Array Oper) (listed : Array Bool) : Prop := ∀ j, listed.getD j false = true → ∀ o, ops[j]? = some o → ∀ e ∈ o.after, Region.binds md e = true → listed.getD e.on false = true
theorem getD_set {listed : Array Bool} {i j : Nat} (hi : i < listed.size) : (listed.setIfInBounds i true).getD j false = if i = j then true else listed.getD j false := by
  rw [Array.getD_eq_getD_getElem?, Array.getElem?_setIfInBounds]
  by_cases h : i = j
  · subst h
    simp [hi]
  · simp [h, Array.getD_eq_getD_getElem?]
theorem closed_set {listed : Array Bool} {i : Nat} (hi : i < listed.size) (hc : closedL md ops listed) (h : ∀ o, ops[i]? = some o → ∀ e ∈ o.after, Region.binds md e = true → listed.getD e.on false = true) : closedL md ops (listed.setIfInBounds i true) := by
  intro j hj o ho e he hb
  rw [getD_set hi] at hj ⊢
  by_cases hij : i = j
  · subst hij
    rw [h o ho e he hb]
    simp
  · rw [if_neg hij] at hj
    rw [hc j hj o ho e he hb]
    simp

/-- A region that draws its order, by a condition that each operation keeps. -/
theorem wpAny_inv {Inv : Array Bool → Act → World → Prop} (hb : backwards md ops = true)
    (hstep : ∀ (listed : Array Bool) (a : Act) (w : World) (i : Nat), listed.size = ops.size → closedL md ops listed → Inv listed a w → i < ops.size → listed.getD i true = false → (∀ o, ops[i]? = some o → ∀ e ∈ o.after, Region.binds md e = true → listed.getD e.on false = true) → wpOp P ops Q i (Inv (listed.setIfInBounds i true)) a w)
    (hdone : ∀ (listed : Array Bool) (a : Act) (w : World), listed.size = ops.size → Inv listed a w → allListed ops.size listed → Q .normal a w) :
    ∀ (fuel : Nat) (listed : Array Bool) (a : Act) (w : World), listed.size = ops.size → unlisted listed ≤ fuel → closedL md ops listed → Inv listed a w → wpAny P md ops Q fuel listed a w
  | 0, listed, a, w, hs, hf, hcl, h => by
    have hr : Region.ready md ops listed = [] := by
      cases hq : Region.ready md ops listed with
      | nil => rfl
      | cons i rs =>
        have hm := ready_mem (md := md) (ops := ops) (listed := listed) (i := i) (by rw [hq]; simp)
        have := unlisted_set (by omega) hm.2.1
        omega
    exact ⟨hr, hdone listed a w hs h (ready_none hb hs hr)⟩
  | fuel + 1, listed, a, w, hs, hf, hcl, h => by
    refine ⟨fun hr => hdone listed a w hs h (ready_none hb hs hr), fun i hi => ?_⟩
    obtain ⟨h1, h2, h3⟩ := ready_mem hi
    have h4 := unlisted_set (listed := listed) (i := i) (by omega) h2
    exact wpOp_mono (fun a' w' h' => wpAny_inv hb hstep hdone fuel _ a' w' (by simpa using hs) (by omega) (closed_set (by omega) hcl h3) h') (hstep listed a w i hs hcl h h1 h2 h3)

theorem wp_region_inv {id : Nat} {a : Act} {w : World} {Inv : Array Bool → Act → World → Prop} (hm : P.follows .mixedOrders = true) (hb : backwards .any ops = true)
    (hstart : Inv (Array.replicate ops.size false) a w.drew)
    (hstep : ∀ (listed : Array Bool) (a : Act) (w : World) (i : Nat), listed.size = ops.size → closedL .any ops listed → Inv listed a w → i < ops.size → listed.getD i true = false → (∀ o, ops[i]? = some o → ∀ e ∈ o.after, Region.binds .any e = true → listed.getD e.on false = true) → wpOp P ops Q i (Inv (listed.setIfInBounds i true)) a w)
    (hdone : ∀ (listed : Array Bool) (a : Act) (w : World), listed.size = ops.size → Inv listed a w → allListed ops.size listed → Q .normal a w) : (Code.region id ops true).wp P Q a w := by
  refine wp_region_any hm (wpAny_inv hb hstep hdone ops.size (Array.replicate ops.size false) a w.drew (by simp) ?_ ?_ hstart)
  · exact Nat.le_trans List.countP_le_length (by simp)
  · intro j hj
    rw [Array.getD_eq_getD_getElem?] at hj
    by_cases h : j < ops.size
    · simp [h] at hj
    · simp [h] at hj

/-- The frame with the region's slots as f says. -/
def putsL (a : Act) (ds : List Nat) (f : Nat → Value) : Act := ds.foldl (fun b d => b.put (some d) (f d)) a
def updF (f : Nat → Value) (d : Nat) (v : Value) : Nat → Value := fun j => if j = d then v else f j
theorem setIfInBounds_same (xs : Array Value) (i : Nat) : xs.setIfInBounds i (xs.getD i undef) = xs := by
  apply Array.ext
  · simp
  · intro j h1 h2
    by_cases h : i = j
    · subst h
      simp [Array.getD_eq_getD_getElem?, h2]
    · rw [Array.getElem_setIfInBounds_ne (by simpa using h2) h]
theorem putsL_start (a : Act) : ∀ ds : List Nat, a = putsL a ds (fun d => a.tmps.getD d undef)
  | [] => rfl
  | d :: ds => by
    have h1 : a.put (some d) (a.tmps.getD d undef) = a := by
      unfold Act.put
      simp only
      rw [setIfInBounds_same]
    have ih := putsL_start a ds
    show a = putsL (a.put (some d) (a.tmps.getD d undef)) ds (fun d => a.tmps.getD d undef)
    rw [h1]
    exact ih

/-- The same, where the frame is told by what stands in the region's slots. -/
theorem wp_region_slots {id : Nat} {a : Act} {w : World} (ds : List Nat) (J : Array Bool → (Nat → Value) → World → Prop) (hm : P.follows .mixedOrders = true) (hb : backwards .any ops = true)
    (hstart : J (Array.replicate ops.size false) (fun d => a.tmps.getD d undef) w.drew)
    (hstep : ∀ (listed : Array Bool) (f : Nat → Value) (w : World) (i : Nat), listed.size = ops.size → closedL .any ops listed → J listed f w → i < ops.size → listed.getD i true = false → (∀ o, ops[i]? = some o → ∀ e ∈ o.after, Region.binds .any e = true → listed.getD e.on false = true) → wpOp P ops Q i (fun a' w' => ∃ f', a' = putsL a ds f' ∧ J (listed.setIfInBounds i true) f' w') (putsL a ds f) w)
    (hdone : ∀ (listed : Array Bool) (f : Nat → Value) (w : World), J listed f w → allListed ops.size listed → Q .normal (putsL a ds f) w) : (Code.region id ops true).wp P Q a w := by
  refine wp_region_inv (Inv := fun listed a' w' => ∃ f', a' = putsL a ds f' ∧ J listed f' w') hm hb ⟨_, putsL_start a ds, hstart⟩ ?_ ?_
  · rintro listed a' w' i hs hc ⟨f, rfl, hJ⟩ h1 h2 h3
    exact hstep listed f w' i hs hc hJ h1 h2 h3
  · rintro listed a' w' hs ⟨f, rfl, hJ⟩ hall
    exact hdone listed f w' hJ hall

theorem putsL_size (a : Act) (f : Nat → Value) : ∀ ds : List Nat, (putsL a ds f).tmps.size = a.tmps.size ∧ (putsL a ds f).defers = a.defers := by
  intro ds
  induction ds generalizing a with
  | nil => exact ⟨rfl, rfl⟩
  | cons d ds ih =>
    obtain ⟨h1, h2⟩ := ih (a.put (some d) (f d))
    refine ⟨?_, ?_⟩
    · show (putsL (a.put (some d) (f d)) ds f).tmps.size = _
      rw [h1]
      simp [Act.put]
    · show (putsL (a.put (some d) (f d)) ds f).defers = _
      rw [h2]
      rfl
theorem putsL_get (f : Nat → Value) (j : Nat) : ∀ (ds : List Nat) (a : Act), (putsL a ds f).tmps[j]? = if j ∈ ds ∧ j < a.tmps.size then some (f j) else a.tmps[j]? := by
  intro ds
  induction ds with
  | nil => intro a; simp [putsL]
  | cons d ds ih =>
    intro a
    show (putsL (a.put (some d) (f d)) ds f).tmps[j]? = _
    rw [ih]
    have hsz : (a.put (some d) (f d)).tmps.size = a.tmps.size := by simp [Act.put]
    rw [hsz]
    by_cases h : j ∈ ds ∧ j < a.tmps.size
    · rw [if_pos h, if_pos ⟨List.mem_cons_of_mem _ h.1, h.2⟩]
    · rw [if_neg h]
      show (a.tmps.setIfInBounds d (f d))[j]? = _
      rw [Array.getElem?_setIfInBounds]
      by_cases hd : d = j
      · subst hd
        by_cases hs : d < a.tmps.size
        · simp [hs]
        · simp [hs]
      · have : ¬ (j ∈ d :: ds ∧ j < a.tmps.size) := by
          rintro ⟨h1, h2⟩
          rcases List.mem_cons.1 h1 with h1 | h1
          · exact hd h1.symm
          · exact h ⟨h1, h2⟩
        rw [if_neg this, if_neg hd]
theorem act_ext {a b : Act} (h1 : ∀ j : Nat, a.tmps[j]? = b.tmps[j]?) (h2 : a.defers = b.defers) : a = b := by
  obtain ⟨t, d⟩ := a
  obtain ⟨t', d'⟩ := b
  simp only at h1 h2
  subst h2
  congr 1
  exact Array.ext_getElem? h1
theorem putsL_put (a : Act) (f : Nat → Value) (ds : List Nat) (d : Nat) (v : Value) (hd : d ∈ ds) : (putsL a ds f).put (some d) v = putsL a ds (updF f d v) := by
  apply act_ext
  · intro j
    show ((putsL a ds f).tmps.setIfInBounds d v)[j]? = _
    rw [Array.getElem?_setIfInBounds, (putsL_size a f ds).1, putsL_get, putsL_get]
    unfold updF
    by_cases h : d = j
    · subst h
      by_cases hs : d < a.tmps.size
      · simp [hs, hd]
      · simp [hs]
    · rw [if_neg h]
      have : ¬ j = d := fun e => h e.symm
      simp [this]
  · show (putsL a ds f).defers = _
    rw [(putsL_size a f ds).2, (putsL_size a _ ds).2]
theorem putsL_in (a : Act) (f : Nat → Value) (ds : List Nat) (d : Nat) (hd : d ∈ ds) (hs : d < a.tmps.size) : (putsL a ds f).eval (.tmp d) = f d := by
  show (putsL a ds f).tmps.getD d undef = f d
  rw [Array.getD_eq_getD_getElem?, putsL_get, if_pos ⟨hd, hs⟩]
  rfl
theorem putsL_out (a : Act) (f : Nat → Value) (ds : List Nat) (d : Nat) (hd : ¬ d ∈ ds) : (putsL a ds f).eval (.tmp d) = a.eval (.tmp d) := by
  show (putsL a ds f).tmps.getD d undef = a.tmps.getD d undef
  rw [Array.getD_eq_getD_getElem?, Array.getD_eq_getD_getElem?, putsL_get, if_neg (fun h => hd h.1)]
theorem putsL_in2 (a : Act) (f : Nat → Value) (ds : List Nat) (d : Nat) (hd : d ∈ ds) (hs : d < a.tmps.size) : (putsL a ds f).tmps[d]?.getD undef = f d := by
  rw [putsL_get, if_pos ⟨hd, hs⟩]
  rfl
theorem putsL_out2 (a : Act) (f : Nat → Value) (ds : List Nat) (d : Nat) (hd : ¬ d ∈ ds) : (putsL a ds f).tmps[d]?.getD undef = a.tmps[d]?.getD undef := by
  rw [putsL_get, if_neg (fun h => hd h.1)]
theorem updF_same (f : Nat → Value) (d : Nat) (v : Value) : updF f d v d = v := if_pos rfl
theorem updF_other (f : Nat → Value) {d j : Nat} (v : Value) (h : j ≠ d) : updF f d v j = f j := if_neg h

theorem wpOp_val {i : Nat} {o : Oper} {a : Act} {w w' : World} {K : Act → World → Prop} (ho : ops[i]? = some o) (hg : o.guard = none) {v : Value} (hr : (execOp a.eval o).run P w = .ok (.value v) w') (hk : K (a.put o.dst v) w') : wpOp P ops Q i K a w := by
  have hw : Region.wanted o (yielded ops a.tmps) = true := by simp [Region.wanted, hg]
  unfold wpOp
  rw [ho]
  simp only
  rw [if_pos hw]
  refine Or.inl ?_
  unfold Oper.wp
  rw [hr]
  exact hk
theorem wpOp_skip {i : Nat} {o : Oper} {a : Act} {w w' : World} {K : Act → World → Prop} (ho : ops[i]? = some o) (hg : o.guard = none) (hr : (execOp a.eval o).run P w = .ok .skip w') (hk : K (a.put o.dst undef) w') : wpOp P ops Q i K a w := by
  have hw : Region.wanted o (yielded ops a.tmps) = true := by simp [Region.wanted, hg]
  unfold wpOp
  rw [ho]
  simp only
  rw [if_pos hw]
  refine Or.inl ?_
  unfold Oper.wp
  rw [hr]
  exact hk
theorem wpOp_call {i : Nat} {o : Oper} {a : Act} {w : World} {K : Act → World → Prop} (ho : ops[i]? = some o) (hg : o.guard = none) {n : FuncId} {vs : Array Value} (hr : (execOp a.eval o).run P w = .ok (.enter n vs) w)
    {R : Value → World → Prop} (hc : Calls P n vs w fun e w' => ∃ v, e = .returned v ∧ R v w') (hk : ∀ v w', R v w' → K (a.put o.dst v) w') : wpOp P ops Q i K a w := by
  have hw : Region.wanted o (yielded ops a.tmps) = true := by simp [Region.wanted, hg]
  unfold wpOp
  rw [ho]
  simp only
  rw [if_pos hw]
  refine Or.inl ?_
  unfold Oper.wp
  rw [hr, Oper.upon_enter]
  exact hc.mono (by rintro e w' ⟨v, rfl, h⟩; exact hk v w' h)

/-- Operation j waits for operation i. -/
def depB (ops : Array Oper) (j i : Nat) : Bool := ((ops[j]?).map fun o => o.after.any fun e => Region.binds .any e && decide (e.on = i)).getD false
def readsOk (ops : Array Oper) (slot : Nat → Nat) (reads : Nat → List Nat) : Bool := (List.range ops.size).all fun j => (List.range ops.size).all fun i => decide (i = j) || !(reads j).contains (slot i) || depB ops j i
theorem depB_closed {listed : Array Bool} (hc : closedL .any ops listed) {i j : Nat} (hj : listed.getD j false = true) (h : depB ops j i = true) : listed.getD i false = true := by
  unfold depB at h
  cases ho : ops[j]? with
  | none => rw [ho] at h; cases h
  | some o =>
    rw [ho] at h
    simp only [Option.map_some, Option.getD_some] at h
    rw [Array.any_eq_true'] at h
    obtain ⟨e, he, h2⟩ := h
    simp only [Bool.and_eq_true, decide_eq_true_eq] at h2
    rw [← h2.2]
    exact hc j hj o ho e he h2.1

/-- A region that draws its order, by what each operation leaves: R j. -/
theorem wp_region_props {id : Nat} {a : Act} {w : World} (ds : List Nat) (slot : Nat → Nat) (reads : Nat → List Nat) (R : Nat → (Nat → Value) → World → Prop) (I : World → Prop)
    (hm : P.follows .mixedOrders = true) (hb : backwards .any ops = true) (hchk : readsOk ops slot reads = true) (hstart : I w.drew)
    (hreads : ∀ j f q v W, ¬ q ∈ reads j → R j f W → R j (updF f q v) W)
    (hstep : ∀ i, i < ops.size → ∀ f W, I W → (∀ j, depB ops i j = true → R j f W) → wpOp P ops Q i (fun a' w' => I w' ∧ (∀ j, R j f W → R j f w') ∧ ((∃ v, slot i ∈ ds ∧ a' = (putsL a ds f).put (some (slot i)) v ∧ R i (updF f (slot i) v) w') ∨ (a' = putsL a ds f ∧ R i f w'))) (putsL a ds f) W)
    (hdone : ∀ f W, I W → (∀ j, j < ops.size → R j f W) → Q .normal (putsL a ds f) W) : (Code.region id ops true).wp P Q a w := by
  refine wp_region_slots ds (fun listed f W => I W ∧ ∀ j, j < ops.size → listed.getD j false = true → R j f W) hm hb ⟨hstart, ?_⟩ ?_ ?_
  · intro j hj h
    rw [Array.getD_eq_getD_getElem?] at h
    simp [hj] at h
  · rintro listed f W i hs hc ⟨hI, hR⟩ hi hl hdep
    have hdeps : ∀ j, depB ops i j = true → R j f W := by
      intro j h
      unfold depB at h
      cases ho : ops[i]? with
      | none => rw [ho] at h; cases h
      | some o =>
        rw [ho] at h
        simp only [Option.map_some, Option.getD_some] at h
        rw [Array.any_eq_true'] at h
        obtain ⟨e, he, h2⟩ := h
        simp only [Bool.and_eq_true, decide_eq_true_eq] at h2
        have h3 := hdep o ho e he h2.1
        rw [h2.2] at h3
        refine hR j ?_ h3
        by_cases hj : j < ops.size
        · exact hj
        · rw [Array.getD_eq_getD_getElem?, Array.getElem?_eq_none (by omega)] at h3
          cases h3
    have hnl : listed.getD i false = false := by
      rw [Array.getD_eq_getD_getElem?, Array.getElem?_eq_getElem (by omega)] at hl ⊢
      simpa using hl
    refine wpOp_mono ?_ (hstep i hi f W hI hdeps)
    rintro a' w' ⟨hI', hk, h | ⟨rfl, hRi⟩⟩
    · obtain ⟨v, hsl, rfl, hRi⟩ := h
      refine ⟨updF f (slot i) v, putsL_put _ _ _ _ _ hsl, hI', fun j hj hlj => ?_⟩
      rw [getD_set (by omega)] at hlj
      by_cases hij : i = j
      · subst hij; exact hRi
      · rw [if_neg hij] at hlj
        refine hreads j f (slot i) v w' (fun hmem => ?_) (hk j (hR j hj hlj))
        have h1 := List.all_eq_true.1 (List.all_eq_true.1 hchk j (List.mem_range.2 hj)) i (List.mem_range.2 hi)
        have h2 : (reads j).contains (slot i) = true := List.contains_iff_mem.2 hmem
        rw [h2, decide_eq_false hij] at h1
        have h3 := depB_closed hc hlj (by simpa using h1)
        rw [hnl] at h3
        cases h3
    · refine ⟨f, rfl, hI', fun j hj hlj => ?_⟩
      rw [getD_set (by omega)] at hlj
      by_cases hij : i = j
      · subst hij; exact hRi
      · rw [if_neg hij] at hlj
        exact hk j (hR j hj hlj)
  · rintro listed f W ⟨hI, hR⟩ hall
    exact hdone f W hI fun j hj => hR j hj (hall j hj)

theorem yielded_of {tmps : Array Value} {j d : Nat} {b : Bool} (hd : (ops[j]?).bind (·.dst) = some d) (ht : tmps[d]? = some (.bool b)) : yielded ops tmps j = some b := by
  unfold yielded
  rw [hd]
  simp only [Option.bind_some, ht]
theorem putsL_some (a : Act) (f : Nat → Value) (ds : List Nat) (d : Nat) (hd : d ∈ ds) (hs : d < a.tmps.size) : (putsL a ds f).tmps[d]? = some (f d) := by
  rw [putsL_get, if_pos ⟨hd, hs⟩]
theorem wpOp_valG {i : Nat} {o : Oper} {a : Act} {w w' : World} {K : Act → World → Prop} {j : Nat} {b : Bool} (ho : ops[i]? = some o) (hg : o.guard = some (j, b)) (hy : yielded ops a.tmps j = some b) {v : Value} (hr : (execOp a.eval o).run P w = .ok (.value v) w') (hk : K (a.put o.dst v) w') : wpOp P ops Q i K a w := by
  have hw : Region.wanted o (yielded ops a.tmps) = true := by simp [Region.wanted, hg, hy]
  unfold wpOp
  rw [ho]
  simp only
  rw [if_pos hw]
  refine Or.inl ?_
  unfold Oper.wp
  rw [hr]
  exact hk
theorem wpOp_off {i : Nat} {o : Oper} {a : Act} {w : World} {K : Act → World → Prop} {j : Nat} {b : Bool} (ho : ops[i]? = some o) (hg : o.guard = some (j, b)) (hy : yielded ops a.tmps j = some (!b)) (hk : K (a.put o.dst undef) w) : wpOp P ops Q i K a w := by
  have hw : Region.wanted o (yielded ops a.tmps) = false := by cases b <;> simp [Region.wanted, hg, hy]
  unfold wpOp
  rw [ho]
  simp only
  rw [if_neg (by rw [hw]; simp)]
  exact hk
theorem wpOp_callG {i : Nat} {o : Oper} {a : Act} {w : World} {K : Act → World → Prop} {j : Nat} {b : Bool} (ho : ops[i]? = some o) (hg : o.guard = some (j, b)) (hy : yielded ops a.tmps j = some b) {n : FuncId} {vs : Array Value} (hr : (execOp a.eval o).run P w = .ok (.enter n vs) w)
    {R : Value → World → Prop} (hc : Calls P n vs w fun e w' => ∃ v, e = .returned v ∧ R v w') (hk : ∀ v w', R v w' → K (a.put o.dst v) w') : wpOp P ops Q i K a w := by
  have hw : Region.wanted o (yielded ops a.tmps) = true := by simp [Region.wanted, hg, hy]
  unfold wpOp
  rw [ho]
  simp only
  rw [if_pos hw]
  refine Or.inl ?_
  unfold Oper.wp
  rw [hr, Oper.upon_enter]
  exact hc.mono (by rintro e w' ⟨v, rfl, h⟩; exact hk v w' h)

/-- A table of what the slots from b on hold. -/
def RT (b : Nat) (tab : List Value) (j : Nat) (f : Nat → Value) (_ : World) : Prop := f (b + j) = tab.getD j undef
def slotT (b j : Nat) : Nat := b + j
def readsT (b j : Nat) : List Nat := [b + j]
theorem RT.upd {b : Nat} {tab : List Value} {j : Nat} {f : Nat → Value} {q : Nat} {v : Value} {w : World} (hq : ¬ q ∈ readsT b j) (h : RT b tab j f w) : RT b tab j (updF f q v) w := by
  unfold RT at h ⊢
  rw [updF_other f v (fun e => hq (by rw [← e]; simp [readsT]))]
  exact h

/-- The same table for slots that stand anywhere. -/
def RTs (ss : List Nat) (tab : List Value) (j : Nat) (f : Nat → Value) (_ : World) : Prop := f (ss.getD j 9999) = tab.getD j undef
def slotS (ss : List Nat) (j : Nat) : Nat := ss.getD j 9999
def readsS (ss : List Nat) (j : Nat) : List Nat := [ss.getD j 9999]
theorem RTs.upd {ss : List Nat} {tab : List Value} {j : Nat} {f : Nat → Value} {q : Nat} {v : Value} {w : World} (hq : ¬ q ∈ readsS ss j) (h : RTs ss tab j f w) : RTs ss tab j (updF f q v) w := by
  unfold RTs at h ⊢
  rw [updF_other f v (fun e => hq (by rw [← e]; simp [readsS]))]
  exact h

/-- What each slot holds, as a predicate on its value and the world. -/
def RP (ss : List Nat) (P : Nat → Value → World → Prop) (j : Nat) (f : Nat → Value) (W : World) : Prop := P j (f (ss.getD j 9999)) W
theorem RP.upd {ss : List Nat} {P : Nat → Value → World → Prop} {j : Nat} {f : Nat → Value} {q : Nat} {v : Value} {w : World} (hq : ¬ q ∈ readsS ss j) (h : RP ss P j f w) : RP ss P j (updF f q v) w := by
  unfold RP at h ⊢
  rw [updF_other f v (fun e => hq (by rw [← e]; simp [readsS]))]
  exact h
theorem RP.set {ss : List Nat} {P : Nat → Value → World → Prop} {j : Nat} {f : Nat → Value} {v : Value} {w : World} (h : P j v w) : RP ss P j (updF f (slotS ss j) v) w := by
  unfold RP slotS
  rw [updF_same]
  exact h

def depN (ops : Array Oper) : Nat → Nat → Nat → Bool
  | 0, _, _ => false
  | n + 1, j, i => depB ops j i || (List.range ops.size).any fun k => depB ops j k && depN ops n k i
theorem depN_closed {listed : Array Bool} (hc : closedL .any ops listed) : ∀ {n i j : Nat}, listed.getD j false = true → depN ops n j i = true → listed.getD i false = true
  | 0, _, _, _, h => by cases h
  | n + 1, i, j, hj, h => by
    simp only [depN, Bool.or_eq_true] at h
    rcases h with h | h
    · exact depB_closed hc hj h
    · rw [List.any_eq_true] at h
      obtain ⟨k, _, hk⟩ := h
      rw [Bool.and_eq_true] at hk
      exact depN_closed hc (depB_closed hc hj hk.1) hk.2
def readsOkN (ops : Array Oper) (n : Nat) (slot : Nat → Nat) (reads : Nat → List Nat) : Bool := (List.range ops.size).all fun j => (List.range ops.size).all fun i => decide (i = j) || !(reads j).contains (slot i) || depN ops n j i
def dep2B (ops : Array Oper) (l i : Nat) : Bool := depB ops l i || (List.range ops.size).any fun k => depB ops l k && depB ops k i
theorem dep2B_closed {listed : Array Bool} (hc : closedL .any ops listed) {i j : Nat} (hj : listed.getD j false = true) (h : dep2B ops j i = true) : listed.getD i false = true := by
  unfold dep2B at h
  rw [Bool.or_eq_true] at h
  rcases h with h | h
  · exact depB_closed hc hj h
  · rw [List.any_eq_true] at h
    obtain ⟨k, _, hk⟩ := h
    rw [Bool.and_eq_true] at hk
    exact depB_closed hc (depB_closed hc hj hk.1) hk.2

/-- The same, where the last operation waits for all others: I holds ahead of it, I' behind it. -/
theorem wp_region_last {id : Nat} {a : Act} {w : World} (ds : List Nat) (slot : Nat → Nat) (reads : Nat → List Nat) (R : Nat → (Nat → Value) → World → Prop) (I : World → Prop) (I' : (Nat → Value) → World → Prop) (last n : Nat) (hl : ops.size = last + 1)
    (hm : P.follows .mixedOrders = true) (hb : backwards .any ops = true) (hchk : readsOkN ops n slot reads = true) (hdl : (List.range last).all (fun i => dep2B ops last i) = true) (hstart : I w.drew)
    (hreads : ∀ j f q v W, ¬ q ∈ reads j → R j f W → R j (updF f q v) W)
    (hstep : ∀ i, i < last → ∀ f W, I W → (∀ j, j < last → depB ops i j = true → R j f W) → wpOp P ops Q i (fun a' w' => I w' ∧ (∀ j, R j f W → R j f w') ∧ ∃ v, slot i ∈ ds ∧ a' = (putsL a ds f).put (some (slot i)) v ∧ R i (updF f (slot i) v) w') (putsL a ds f) W)
    (hlast : ∀ f W, I W → (∀ j, j < last → R j f W) → wpOp P ops Q last (fun a' w' => a' = putsL a ds f ∧ I' f w') (putsL a ds f) W)
    (hdone : ∀ f W, I' f W → Q .normal (putsL a ds f) W) : (Code.region id ops true).wp P Q a w := by
  refine wp_region_slots ds (fun listed f W => (listed.getD last false = false → I W ∧ ∀ j, j < last → listed.getD j false = true → R j f W) ∧ (listed.getD last false = true → I' f W)) hm hb ⟨fun _ => ⟨hstart, ?_⟩, ?_⟩ ?_ ?_
  · intro j hj h
    rw [Array.getD_eq_getD_getElem?] at h
    by_cases h2 : j < ops.size
    · simp [h2] at h
    · simp [h2] at h
  · intro h
    rw [Array.getD_eq_getD_getElem?] at h
    by_cases h2 : last < ops.size
    · simp [h2] at h
    · simp [h2] at h
  · rintro listed f W i hs hc ⟨hI, -⟩ hi hun hdep
    have hnl : listed.getD i false = false := by
      rw [Array.getD_eq_getD_getElem?, Array.getElem?_eq_getElem (by omega)] at hun ⊢
      simpa using hun
    have hll : listed.getD last false = false := by
      cases hq : listed.getD last false with
      | false => rfl
      | true =>
        by_cases hil : i = last
        · rw [hil, hq] at hnl; cases hnl
        · have h1 := List.all_eq_true.1 hdl i (List.mem_range.2 (by omega))
          have h2 := dep2B_closed hc hq h1
          rw [h2] at hnl
          cases hnl
    obtain ⟨hIW, hR⟩ := hI hll
    have hdeps : ∀ j, depB ops i j = true → listed.getD j false = true := by
      intro j h
      unfold depB at h
      cases ho : ops[i]? with
      | none => rw [ho] at h; cases h
      | some o =>
        rw [ho] at h
        simp only [Option.map_some, Option.getD_some] at h
        rw [Array.any_eq_true'] at h
        obtain ⟨e, he, h2⟩ := h
        simp only [Bool.and_eq_true, decide_eq_true_eq] at h2
        have h3 := hdep o ho e he h2.1
        rw [h2.2] at h3
        exact h3
    by_cases hil : i = last
    · subst hil
      have hall : ∀ j, j < i → R j f W := by
        intro j hj
        refine hR j hj ?_
        have h1 := List.all_eq_true.1 hdl j (List.mem_range.2 hj)
        unfold dep2B at h1
        rw [Bool.or_eq_true] at h1
        rcases h1 with h1 | h1
        · exact hdeps j h1
        · rw [List.any_eq_true] at h1
          obtain ⟨k, _, hk⟩ := h1
          rw [Bool.and_eq_true] at hk
          exact depB_closed hc (hdeps k hk.1) hk.2
      refine wpOp_mono ?_ (hlast f W hIW hall)
      rintro a' w' ⟨rfl, h⟩
      refine ⟨f, rfl, fun h2 => ?_, fun _ => h⟩
      rw [getD_set (by omega)] at h2
      simp at h2
    · refine wpOp_mono ?_ (hstep i (by omega) f W hIW (fun j hj h => hR j hj (hdeps j h)))
      rintro a' w' ⟨hI', hk, v, hsl, rfl, hRi⟩
      refine ⟨updF f (slot i) v, putsL_put _ _ _ _ _ hsl, fun _ => ⟨hI', fun j hj hlj => ?_⟩, fun h2 => ?_⟩
      · rw [getD_set (by omega)] at hlj
        by_cases hij : i = j
        · subst hij; exact hRi
        · rw [if_neg hij] at hlj
          refine hreads j f (slot i) v w' (fun hmem => ?_) (hk j (hR j hj hlj))
          have h1 := List.all_eq_true.1 (List.all_eq_true.1 hchk j (List.mem_range.2 (by omega))) i (List.mem_range.2 hi)
          have h2 : (reads j).contains (slot i) = true := List.contains_iff_mem.2 hmem
          rw [h2, decide_eq_false hij] at h1
          have h3 := depN_closed (n := n) hc hlj (by simpa using h1)
          rw [hnl] at h3
          cases h3
      · rw [getD_set (by omega), if_neg hil, hll] at h2
        cases h2
  · rintro listed f W ⟨-, h⟩ hall
    exact hdone f W (h (hall last (by omega)))
end

/-- The same, where one operation s is a store that all others wait for or that waits for them, but for some free ones that may come before or behind it (they read slots alone). -/
theorem wp_region_store {P : Program} {ops : Array Oper} {Q : Exit → Act → World → Prop} {id : Nat} {a : Act} {w : World} (ds : List Nat) (slot : Nat → Nat) (reads : Nat → List Nat) (R : Nat → (Nat → Value) → World → Prop) (I : World → Prop) (I' : (Nat → Value) → World → Prop) (s n : Nat) (free : List Nat) (hs0 : s < ops.size)
    (hm : P.follows .mixedOrders = true) (hb : backwards .any ops = true) (hchk : readsOkN ops n slot reads = true) (hdl : (List.range ops.size).all (fun i => decide (i = s) || free.contains i || depN ops n s i) = true) (hstart : I w.drew)
    (hreads : ∀ j f q v W, ¬ q ∈ reads j → R j f W → R j (updF f q v) W)
    (hstep : ∀ i, i < ops.size → i ≠ s → ∀ f W, I W → (∀ j, j ≠ s → depB ops i j = true → R j f W) → wpOp P ops Q i (fun a' w' => I w' ∧ (∀ j, R j f W → R j f w') ∧ ∃ v, slot i ∈ ds ∧ a' = (putsL a ds f).put (some (slot i)) v ∧ R i (updF f (slot i) v) w') (putsL a ds f) W)
    (hfree : ∀ i, i < ops.size → i ∈ free → ∀ f W, I' f W → (∀ j, j ≠ s → depB ops i j = true → R j f W) → wpOp P ops Q i (fun a' w' => w' = W ∧ ∃ v, slot i ∈ ds ∧ a' = (putsL a ds f).put (some (slot i)) v ∧ R i (updF f (slot i) v) W ∧ I' (updF f (slot i) v) W) (putsL a ds f) W)
    (hstore : ∀ f W, I W → (∀ j, j < ops.size → j ≠ s → free.contains j = false → R j f W) → wpOp P ops Q s (fun a' w' => a' = putsL a ds f ∧ I' f w' ∧ ∀ j, R j f W → R j f w') (putsL a ds f) W)
    (hdone : ∀ f W, I' f W → (∀ j, j < ops.size → j ≠ s → R j f W) → Q .normal (putsL a ds f) W) : (Code.region id ops true).wp P Q a w := by
  have hfalse : ∀ k, (Array.replicate ops.size false).getD k false = true → False := fun k h => by
    rw [Array.getD_eq_getD_getElem?] at h
    by_cases h2 : k < ops.size
    · simp [h2] at h
    · simp [h2] at h
  refine wp_region_slots ds (fun listed f W => (listed.getD s false = false → I W) ∧ (∀ j, j < ops.size → j ≠ s → listed.getD j false = true → R j f W) ∧ (listed.getD s false = true → I' f W)) hm hb ⟨fun _ => hstart, fun j _ _ h => (hfalse j h).elim, fun h => (hfalse s h).elim⟩ ?_ ?_
  · rintro listed f W i hs hc ⟨hI, hR, hI2⟩ hi hun hdep
    have hnl : listed.getD i false = false := by
      rw [Array.getD_eq_getD_getElem?, Array.getElem?_eq_getElem (by omega)] at hun ⊢
      simpa using hun
    have hdeps : ∀ j, depB ops i j = true → listed.getD j false = true := by
      intro j h
      unfold depB at h
      cases ho : ops[i]? with
      | none => rw [ho] at h; cases h
      | some o =>
        rw [ho] at h
        simp only [Option.map_some, Option.getD_some] at h
        rw [Array.any_eq_true'] at h
        obtain ⟨e, he, h2⟩ := h
        simp only [Bool.and_eq_true, decide_eq_true_eq] at h2
        have h3 := hdep o ho e he h2.1
        rw [h2.2] at h3
        exact h3
    have hlt : ∀ j, listed.getD j false = true → j < ops.size := fun j h => by
      by_cases h2 : j < ops.size
      · exact h2
      · rw [Array.getD_eq_getD_getElem?, Array.getElem?_eq_none (by omega)] at h; cases h
    have hold : ∀ f' (v : Value) W', f' = updF f (slot i) v → R i f' W' → (∀ j, R j f W → R j f W') → ∀ j, j < ops.size → j ≠ s → (listed.setIfInBounds i true).getD j false = true → R j f' W' := by
      rintro f' v W' rfl hRi hk j hj hjs hlj
      rw [getD_set (by omega)] at hlj
      by_cases hij : i = j
      · subst hij; exact hRi
      · rw [if_neg hij] at hlj
        refine hreads j f (slot i) v W' (fun hmem => ?_) (hk j (hR j hj hjs hlj))
        have h1 := List.all_eq_true.1 (List.all_eq_true.1 hchk j (List.mem_range.2 hj)) i (List.mem_range.2 hi)
        have h2 : (reads j).contains (slot i) = true := List.contains_iff_mem.2 hmem
        rw [h2, decide_eq_false hij] at h1
        have h3 := depN_closed (n := n) hc hlj (by simpa using h1)
        rw [hnl] at h3
        cases h3
    cases hls : listed.getD s false with
    | false =>
      by_cases his : i = s
      · subst his
        refine wpOp_mono ?_ (hstore f W (hI hls) fun j hj hjs hfr => hR j hj hjs ?_)
        · rintro a' w' ⟨rfl, h1, h2⟩
          refine ⟨f, rfl, fun h3 => ?_, fun j hj hjs hlj => ?_, fun _ => h1⟩
          · rw [getD_set (by omega), if_pos rfl] at h3; cases h3
          · rw [getD_set (by omega), if_neg (Ne.symm hjs)] at hlj
            exact h2 j (hR j hj hjs hlj)
        · have h1 := List.all_eq_true.1 hdl j (List.mem_range.2 hj)
          rw [hfr, decide_eq_false hjs] at h1
          have h2 : depN ops n i j = true := by simpa using h1
          cases n with
          | zero => cases h2
          | succ n =>
            simp only [depN, Bool.or_eq_true] at h2
            rcases h2 with h2 | h2
            · exact hdeps j h2
            · rw [List.any_eq_true] at h2
              obtain ⟨k, _, hk⟩ := h2
              rw [Bool.and_eq_true] at hk
              exact depN_closed hc (hdeps k hk.1) hk.2
      · refine wpOp_mono ?_ (hstep i hi his f W (hI hls) (fun j hjs h => hR j (hlt j (hdeps j h)) hjs (hdeps j h)))
        rintro a' w' ⟨h1, hk, v, hsl, rfl, hRi⟩
        refine ⟨updF f (slot i) v, putsL_put _ _ _ _ _ hsl, fun _ => h1, hold _ v w' rfl hRi hk, fun h3 => ?_⟩
        rw [getD_set (by omega), if_neg his, hls] at h3
        cases h3
    | true =>
      have his : i ≠ s := fun e => by rw [e, hls] at hnl; cases hnl
      have hif : i ∈ free := by
        have h1 := List.all_eq_true.1 hdl i (List.mem_range.2 hi)
        rw [decide_eq_false his] at h1
        cases hcf : free.contains i with
        | true => exact List.contains_iff_mem.1 hcf
        | false =>
          rw [hcf] at h1
          have h3 := depN_closed (n := n) hc hls (by simpa using h1)
          rw [hnl] at h3
          cases h3
      refine wpOp_mono ?_ (hfree i hi hif f W (hI2 hls) (fun j hjs h => hR j (hlt j (hdeps j h)) hjs (hdeps j h)))
      rintro a' w' ⟨rfl, v, hsl, rfl, hRi, h1⟩
      refine ⟨updF f (slot i) v, putsL_put _ _ _ _ _ hsl, fun h3 => ?_, hold _ v _ rfl hRi (fun _ h => h), fun _ => h1⟩
      rw [getD_set (by omega), if_neg his, hls] at h3
      cases h3
  · rintro listed f W ⟨hI, hR, hI2⟩ hall
    exact hdone f W (hI2 (hall s hs0)) fun j hj hjs => hR j hj hjs (hall j hj)

end Go.Proofs.Ytoelidndnajedab

/- A region that draws its order, whose last operations stand in a fixed order behind all others (an append and what follows it): a property for each of the first, invariants for the last; of no function of the program; no condition. -/
namespace Go.Proofs.Ytoelidndnajedab
open Go.RowKit Go.Lib Go.Proofs

def tailOk (ops : Array Oper) (n s : Nat) : Bool := (List.range ops.size).all fun i => decide (i < s) || (List.range i).all fun j => depN ops n i j
def readsOkT (ops : Array Oper) (n s : Nat) (slot : Nat → Nat) (reads : Nat → List Nat) : Bool := (List.range s).all fun j => (List.range s).all fun i => decide (i = j) || !(reads j).contains (slot i) || depN ops n j i

theorem wp_region_tail {P : Program} {ops : Array Oper} {Q : Exit → Act → World → Prop} {id : Nat} {a : Act} {w : World} (ds : List Nat) (slot : Nat → Nat) (reads : Nat → List Nat) (R : Nat → (Nat → Value) → World → Prop) (I : World → Prop) (It : Nat → (Nat → Value) → World → Prop) (s n : Nat) (hs0 : s < ops.size)
    (hm : P.follows .mixedOrders = true) (hb : backwards .any ops = true) (hchk : readsOkT ops n s slot reads = true) (htl : tailOk ops n s = true) (hstart : I w.drew)
    (hreads : ∀ j f q v W, ¬ q ∈ reads j → R j f W → R j (updF f q v) W)
    (hstep : ∀ i, i < s → ∀ f W, I W → (∀ j, depB ops i j = true → R j f W) → wpOp P ops Q i (fun a' w' => I w' ∧ (∀ j, R j f W → R j f w') ∧ ∃ v, slot i ∈ ds ∧ a' = (putsL a ds f).put (some (slot i)) v ∧ R i (updF f (slot i) v) w') (putsL a ds f) W)
    (hfirst : ∀ f W, I W → (∀ j, j < s → R j f W) → It 0 f W)
    (htail : ∀ i, s ≤ i → i < ops.size → ∀ f W, It (i - s) f W → wpOp P ops Q i (fun a' w' => ∃ f', a' = putsL a ds f' ∧ It (i - s + 1) f' w') (putsL a ds f) W)
    (hdone : ∀ f W, It (ops.size - s) f W → Q .normal (putsL a ds f) W) : (Code.region id ops true).wp P Q a w := by
  have hfalse : ∀ k, (Array.replicate ops.size false).getD k false = true → False := fun k h => by
    rw [Array.getD_eq_getD_getElem?] at h
    by_cases h2 : k < ops.size
    · simp [h2] at h
    · simp [h2] at h
  have hT : ∀ i, i < ops.size → s ≤ i → ∀ j, j < i → depN ops n i j = true := fun i hi hsi j hj => by
    have h1 := List.all_eq_true.1 htl i (List.mem_range.2 hi)
    rw [decide_eq_false (by omega), Bool.false_or] at h1
    exact List.all_eq_true.1 h1 j (List.mem_range.2 hj)
  refine wp_region_slots ds (fun listed f W => (listed.getD s false = false → I W ∧ ∀ j, j < s → listed.getD j false = true → R j f W) ∧ ∀ k, s < k → k ≤ ops.size → listed.getD (k - 1) false = true → (k < ops.size → listed.getD k false = false) → It (k - s) f W) hm hb ⟨fun _ => ⟨hstart, fun j _ h => (hfalse j h).elim⟩, fun k _ _ h => (hfalse _ h).elim⟩ ?_ ?_
  · rintro listed f W i hs hc ⟨hI, hI2⟩ hi hun hdep
    have hnl : listed.getD i false = false := by
      rw [Array.getD_eq_getD_getElem?, Array.getElem?_eq_getElem (by omega)] at hun ⊢
      simpa using hun
    have hdeps : ∀ j, depB ops i j = true → listed.getD j false = true := by
      intro j h
      unfold depB at h
      cases ho : ops[i]? with
      | none => rw [ho] at h; cases h
      | some o =>
        rw [ho] at h
        simp only [Option.map_some, Option.getD_some] at h
        rw [Array.any_eq_true'] at h
        obtain ⟨e, he, h2⟩ := h
        simp only [Bool.and_eq_true, decide_eq_true_eq] at h2
        have h3 := hdep o ho e he h2.1
        rw [h2.2] at h3
        exact h3
    have hdepsN : ∀ j, depN ops n i j = true → listed.getD j false = true := by
      intro j h2
      cases n with
      | zero => cases h2
      | succ n =>
        simp only [depN, Bool.or_eq_true] at h2
        rcases h2 with h2 | h2
        · exact hdeps j h2
        · rw [List.any_eq_true] at h2
          obtain ⟨k, _, hk⟩ := h2
          rw [Bool.and_eq_true] at hk
          exact depN_closed hc (hdeps k hk.1) hk.2
    have hlt : ∀ j, listed.getD j false = true → j < ops.size := fun j h => by
      by_cases h2 : j < ops.size
      · exact h2
      · rw [Array.getD_eq_getD_getElem?, Array.getElem?_eq_none (by omega)] at h; cases h
    have hno : ∀ k, s ≤ k → i < k → listed.getD k false = false := fun k hk hik => by
      cases hl : listed.getD k false with
      | false => rfl
      | true =>
        have h3 := depN_closed (n := n) hc hl (hT k (hlt k hl) hk i hik)
        rw [hnl] at h3
        cases h3
    by_cases his : i < s
    · have hls := hno s (Nat.le_refl _) his
      obtain ⟨hIW, hR⟩ := hI hls
      refine wpOp_mono ?_ (hstep i his f W hIW fun j h => ?_)
      · rintro a' w' ⟨h1, hk, v, hsl, rfl, hRi⟩
        refine ⟨updF f (slot i) v, putsL_put _ _ _ _ _ hsl, fun _ => ⟨h1, fun j hj hlj => ?_⟩, fun k hk1 hk2 hlk _ => ?_⟩
        · rw [getD_set (by omega)] at hlj
          by_cases hij : i = j
          · subst hij; exact hRi
          · rw [if_neg hij] at hlj
            refine hreads j f (slot i) v w' (fun hmem => ?_) (hk j (hR j hj hlj))
            have h1 := List.all_eq_true.1 (List.all_eq_true.1 hchk j (List.mem_range.2 hj)) i (List.mem_range.2 his)
            have h2 : (reads j).contains (slot i) = true := List.contains_iff_mem.2 hmem
            rw [h2, decide_eq_false hij] at h1
            have h3 := depN_closed (n := n) hc hlj (by simpa using h1)
            rw [hnl] at h3
            cases h3
        · rw [getD_set (by omega), if_neg (by omega), hno (k - 1) (by omega) (by omega)] at hlk
          cases hlk
      · have hlj := hdeps j h
        by_cases hjs : j < s
        · exact hR j hjs hlj
        · exfalso
          by_cases hjs2 : j = s
          · rw [hjs2, hls] at hlj; cases hlj
          · have := hno j (by omega) (by omega)
            rw [this] at hlj; cases hlj
    · have hall : ∀ j, j < i → listed.getD j false = true := fun j hj => hdepsN j (hT i hi (by omega) j hj)
      have hIt : It (i - s) f W := by
        by_cases his2 : i = s
        · rw [his2, Nat.sub_self]
          rw [his2] at hnl hall
          obtain ⟨hIW, hR⟩ := hI hnl
          exact hfirst f W hIW fun j hj => hR j hj (hall j hj)
        · exact hI2 i (by omega) (by omega) (hall (i - 1) (by omega)) fun _ => hnl
      refine wpOp_mono ?_ (htail i (by omega) hi f W hIt)
      rintro a' w' ⟨f', rfl, h1⟩
      refine ⟨f', rfl, fun h2 => ?_, fun k hk1 hk2 hlk hlk2 => ?_⟩
      · exfalso
        rw [getD_set (by omega)] at h2
        by_cases his2 : i = s
        · rw [if_pos his2] at h2; cases h2
        · rw [if_neg his2, hall s (by omega)] at h2; cases h2
      · have hki : k = i + 1 := by
          rw [getD_set (by omega)] at hlk
          by_cases hk3 : k - 1 = i
          · omega
          · rw [if_neg (fun e => hk3 e.symm)] at hlk
            by_cases hk4 : i < k - 1
            · rw [hno (k - 1) (by omega) hk4] at hlk; cases hlk
            · have h2 := hlk2 (by omega)
              rw [getD_set (by omega)] at h2
              by_cases hk5 : i = k
              · rw [if_pos hk5] at h2; cases h2
              · rw [if_neg hk5, hall k (by omega)] at h2; cases h2
        rw [hki, show i + 1 - s = i - s + 1 by omega]
        exact h1
  · rintro listed f W ⟨hI, hI2⟩ hall
    exact hdone f W (hI2 ops.size hs0 (Nat.le_refl _) (hall _ (by omega)) fun h => absurd h (Nat.lt_irrefl _))

/-- An append onto a row of the call's own, as an operation of a region that draws. -/
theorem wpOp_append {P : Program} {ops : Array Oper} {Q : Exit → Act → World → Prop} {i : Nat} {o : Oper} {a : Act} {w : World} {K : Act → World → Prop} (ho : ops[i]? = some o) (hgd : o.guard = none) (s x : Operand) (t : TypeId)
    (hop : o.op = .call { callee := .builtin .append, args := #[s, x], argTypes := #[t, t] })
    (base : Nat) (e : TypeId) (inf : TypeInfo) (z : Value) (size bytes : Nat) (ht : P.underlying t = some (.slice e)) (hi : P.info? e = some inf) (hz : inf.zero = some z)
    (hsize : inf.size = size) (hby : inf.bytes = bytes) (hzs : z.cells.size = size) (hsz : 0 < size)
    (v : Value) (n : Nat) (xs : List Value) (hs : a.eval s = v) (hown : w.ownsRow base e size v n xs)
    (ad : Addr) (m c : Nat) (news : List Value) (hx : a.eval x = .slice (some ad) m c) (hl : news.length = m * size) (hnews : ∀ j u, news[j]? = some u → w.cell? (ad.add j) = some u) (h1 : ∀ u ∈ news, u.oneCell' = true)
    (h63 : n + m ≤ maxLen) (hbytes : (n + m) * bytes ≤ 140737488355328) (hbase : base ≤ w.heap.size)
    (hK : ∀ v' w', w'.ownsRow base e size v' (n + m) (xs ++ news) → w.grownBy w' v.ownBlock → K (a.put o.dst v') w') : wpOp P ops Q i K a w := by
  obtain ⟨v', w', hr, h2, h3, _⟩ := run_append_own_at (P := P) w base t o.type e inf z size bytes ht hi hz hsize hby hzs hsz v n xs hown ad m c news hl hnews h1 h63 hbytes hbase
  refine wpOp_val ho hgd (v := v') (w' := w') ?_ (hK v' w' h2 h3)
  unfold execOp
  simp only [hop, resolve, invoke, builtin, Sem.run_bind, Sem.run_pure, Result.andThen_ok, List.map_toArray, List.map_cons, List.map_nil, hs, hx, hr]
theorem obj_new_cells {V : World} {g : Nat} {cs : Array Value} {T : TypeId} (h : V.heap[g]? = some (.cells cs T (0, 0))) : ∀ j u, cs.toList[j]? = some u → V.cell? ((⟨g, 0, none⟩ : Addr).add j) = some u := by
  intro j u hu
  rw [show (⟨g, 0, none⟩ : Addr).add j = ⟨g, 0 + j, none⟩ by unfold Addr.add; split <;> simp_all, Nat.zero_add]
  have h2 : V.cell? ⟨g, j, none⟩ = cs[j]? := by simp [World.cell?, h]
  rw [h2]
  simpa using hu

theorem run_fresh_append {P : Program} (w : World) (base : Nat) (t ty e : TypeId) (i : TypeInfo) (z : Value) (size bytes : Nat) (ht : P.underlying t = some (.slice e)) (hi : P.info? e = some i) (hz : i.zero = some z)
    (hsize : i.size = size) (hby : i.bytes = bytes) (hzs : z.cells.size = size) (hsz : 0 < size)
    (ao : Option Addr) (m c : Nat) (news : List Value) (hl : news.length = m * size) (hnews : m = 0 ∨ ∃ ad : Addr, ao = some ad ∧ ∀ j u, news[j]? = some u → w.cell? (ad.add j) = some u) (h1 : ∀ u ∈ news, u.oneCell' = true)
    (h63 : m ≤ maxLen) (hbytes : m * bytes ≤ 140737488355328) (hbase : base ≤ w.heap.size) :
    ∃ v' w', (Builtin.append_ #[t, t] ty #[.slice none 0 0, .slice ao m c]).run P w = .ok v' w' ∧ w'.ownsRow base e size v' m news ∧ w.grownBy w' none := by
  by_cases hm : m = 0
  · subst hm
    have hn : news = [] := List.eq_nil_of_length_eq_zero (by simpa using hl)
    subst hn
    refine ⟨.slice none 0 0, w, ?_, World.ownsRow_nil w base e size, grownBy_refl w none⟩
    cases ao <;> simp [Builtin.append_, run_underlying ht, sizeOf, typeInfo, hi, Builtin.lenOf, Builtin.firstCells, loadCells, loadCellsFrom]
  · obtain ⟨ad, rfl, hc⟩ := hnews.resolve_left hm
    obtain ⟨v', w', hr, h2, h3, _⟩ := run_append_own_at (P := P) w base t ty e i z size bytes ht hi hz hsize hby hzs hsz (.slice none 0 0) 0 [] (World.ownsRow_nil _ _ _ _) ad m c news hl hc h1 (by omega) (by simpa using hbytes) hbase
    rw [Nat.zero_add, List.nil_append] at h2
    exact ⟨v', w', hr, h2, h3⟩

theorem wpOp_fresh {P : Program} {ops : Array Oper} {Q : Exit → Act → World → Prop} {i : Nat} {o : Oper} {a : Act} {w : World} {K : Act → World → Prop} (ho : ops[i]? = some o) (hgd : o.guard = none) (s x : Operand) (t : TypeId)
    (hop : o.op = .call { callee := .builtin .append, args := #[s, x], argTypes := #[t, t] })
    (base : Nat) (e : TypeId) (inf : TypeInfo) (z : Value) (size bytes : Nat) (ht : P.underlying t = some (.slice e)) (hi : P.info? e = some inf) (hz : inf.zero = some z)
    (hsize : inf.size = size) (hby : inf.bytes = bytes) (hzs : z.cells.size = size) (hsz : 0 < size)
    (hs : a.eval s = .slice none 0 0) (ao : Option Addr) (m c : Nat) (news : List Value) (hx : a.eval x = .slice ao m c) (hl : news.length = m * size)
    (hnews : m = 0 ∨ ∃ ad : Addr, ao = some ad ∧ ∀ j u, news[j]? = some u → w.cell? (ad.add j) = some u) (h1 : ∀ u ∈ news, u.oneCell' = true)
    (h63 : m ≤ maxLen) (hbytes : m * bytes ≤ 140737488355328) (hbase : base ≤ w.heap.size)
    (hK : ∀ v' w', w'.ownsRow base e size v' m news → w.grownBy w' none → K (a.put o.dst v') w') : wpOp P ops Q i K a w := by
  obtain ⟨v', w', hr, h2, h3⟩ := run_fresh_append (P := P) w base t o.type e inf z size bytes ht hi hz hsize hby hzs hsz ao m c news hl hnews h1 h63 hbytes hbase
  refine wpOp_val ho hgd (v := v') (w' := w') ?_ (hK v' w' h2 h3)
  unfold execOp
  simp only [hop, resolve, invoke, builtin, Sem.run_bind, Sem.run_pure, Result.andThen_ok, List.map_toArray, List.map_cons, List.map_nil, hs, hx, hr]

end Go.Proofs.Ytoelidndnajedab
