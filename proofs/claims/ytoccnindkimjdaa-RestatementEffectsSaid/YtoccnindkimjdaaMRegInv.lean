/- A region that draws its order, by a condition that each of its operations keeps, whatever came before: no branching over the orders. Of no function of the program; no condition. -/
import Derived.Test.YtoccnindkimjdaaMG1
import Derived.RegionTactic
import Derived.Orders
set_option linter.unusedSimpArgs false
set_option linter.unusedVariables false
set_option linter.unusedSimpArgs false
set_option linter.unusedVariables false
namespace Go.Proofs.Ytoccnindkimjdaa
open Go
section
variable {P : Program} {ops : Array Oper} {Q : Exit → Act → World → Prop} {md : Region.Mode}

def allListed (n : Nat) (listed : Array Bool) : Prop := ∀ i, i < n → listed.getD i false = true
def backwards (md : Region.Mode) (ops : Array Oper) : Bool := (List.range ops.size).all fun i => ((ops[i]?).map fun o => o.after.all fun e => !Region.binds md e || decide (e.on < i)).getD true

theorem ready_mem {listed : Array Bool} {i : Nat} (h : i ∈ Region.ready md ops listed) : i < ops.size ∧ listed.getD i true = false ∧ ∀ o, ops[i]? = some o → ∀ e ∈ o.after, Region.binds md e = true → listed.getD e.on false = true := by
  unfold Region.ready at h
  rw [List.mem_filter] at h
  obtain ⟨h1, h2⟩ := h
  simp only [Bool.and_eq_true, Bool.not_eq_true'] at h2
  refine ⟨List.mem_range.1 h1, h2.1, fun o ho e he hb => ?_⟩
  have h3 := h2.2
  rw [ho] at h3
  simp only [Option.map_some, Option.getD_some] at h3
  have h4 := Array.all_eq_true'.1 h3 e he
  rw [hb] at h4
  simpa using h4

theorem ready_none (hb : backwards md ops = true) {listed : Array Bool} (hs : listed.size = ops.size) (h : Region.ready md ops listed = []) : allListed ops.size listed := by
  intro i
  induction i using Nat.strongRecOn with
  | ind i ih =>
    intro hi
    cases hl : listed.getD i false with
    | true => rfl
    | false =>
      exfalso
      have hmem : i ∈ Region.ready md ops listed := by
        unfold Region.ready
        rw [List.mem_filter]
        refine ⟨List.mem_range.2 hi, ?_⟩
        have h1 : listed.getD i true = false := by
          rw [Array.getD_eq_getD_getElem?] at hl ⊢
          rw [Array.getElem?_eq_getElem (by omega)] at hl ⊢
          simpa using hl
        rw [h1]
        have h2 := List.all_eq_true.1 hb i (List.mem_range.2 hi)
        rw [Array.getElem?_eq_getElem hi] at h2 ⊢
        simp only [Option.map_some, Option.getD_some] at h2 ⊢
        simp only [Bool.not_false, Bool.true_and]
        rw [Array.all_eq_true'] at h2 ⊢
        intro e he
        have h3 := h2 e he
        cases hbe : Region.binds md e with
        | false => rfl
        | true =>
          rw [hbe] at h3
          have h4 : e.on < i := by simpa using h3
          simpa using ih e.on h4 (by omega)
      rw [h] at hmem
      cases hmem

def unlisted (listed : Array Bool) : Nat := listed.toList.countP (fun b => !b)
theorem unlisted_set {listed : Array Bool} {i : Nat} (hi : i < listed.size) (h : listed.getD i true = false) : unlisted (listed.setIfInBounds i true) + 1 = unlisted listed := by
  unfold unlisted
  rw [Array.toList_setIfInBounds]
  have hg : listed.toList[i]'(by simpa using hi) = false := by
    rw [Array.getD_eq_getD_getElem?, Array.getElem?_eq_getElem hi] at h
    simpa using h
  have hi2 : i < listed.toList.length := by simpa using hi
  rw [List.countP_set (h := hi2), hg]
  have hpos : 0 < List.countP (fun b => !b) listed.toList := by
    rw [List.countP_pos_iff]
    exact ⟨false, by rw [← hg]; exact List.getElem_mem hi2, rfl⟩
  simp only [Bool.not_false, if_true, Bool.not_true, Bool.false_eq_true, if_false]
  omega

/-- What is done has all done that it waits for. -/
def closedL (md : Region.Mode) (ops : Array Oper) (listed : Array Bool) : Prop := ∀ j, listed.getD j false = true → ∀ o, ops[j]? = some o → ∀ e ∈ o.after, Region.binds md e = true → listed.getD e.on false = true
theorem getD_set {listed : Array Bool} {i j : Nat} (hi : i < listed.size) : (listed.setIfInBounds i true).getD j false = if i = j then true else listed.getD j false := by
  rw [Array.getD_eq_getD_getElem?, Array.getElem?_setIfInBounds]
  by_cases h : i = j
  · subst h
    simp [hi]
  · simp [h, Array.getD_eq_getD_getElem?]
theorem closed_set {listed : Array Bool} {i : Nat} (hi : i < listed.size) (hc : closedL md ops listed) (h : ∀ o, ops[i]? = some o → ∀ e ∈ o.after, Region.binds md e = true → listed.getD e.on false = true) : closedL md ops (listed.setIfInBounds i true) := by
  intro j hj o ho e he hb
  rw [getD_set hi] at hj ⊢
  by_cases hij : i = j
  · subst hij
    rw [h o ho e he hb]
    simp
  · rw [if_neg hij] at hj
    rw [hc j hj o ho e he hb]
    simp

/-- A region that draws its order, by a condition that each operation keeps. -/
theorem wpAny_inv {Inv : Array Bool → Act → World → Prop} (hb : backwards md ops = true)
    (hstep : ∀ (listed : Array Bool) (a : Act) (w : World) (i : Nat), listed.size = ops.size → closedL md ops listed → Inv listed a w → i < ops.size → listed.getD i true = false → (∀ o, ops[i]? = some o → ∀ e ∈ o.after, Region.binds md e = true → listed.getD e.on false = true) → wpOp P ops Q i (Inv (listed.setIfInBounds i true)) a w)
    (hdone : ∀ (listed : Array Bool) (a : Act) (w : World), listed.size = ops.size → Inv listed a w → allListed ops.size listed → Q .normal a w) :
    ∀ (fuel : Nat) (listed : Array Bool) (a : Act) (w : World), listed.size = ops.size → unlisted listed ≤ fuel → closedL md ops listed → Inv listed a w → wpAny P md ops Q fuel listed a w
  | 0, listed, a, w, hs, hf, hcl, h => by
    have hr : Region.ready md ops listed = [] := by
      cases hq : Region.ready md ops listed with
      | nil => rfl
      | cons i rs =>
        have hm := ready_mem (md := md) (ops := ops) (listed := listed) (i := i) (by rw [hq]; simp)
        have := unlisted_set (by omega) hm.2.1
        omega
    exact ⟨hr, hdone listed a w hs h (ready_none hb hs hr)⟩
  | fuel + 1, listed, a, w, hs, hf, hcl, h => by
    refine ⟨fun hr => hdone listed a w hs h (ready_none hb hs hr), fun i hi => ?_⟩
    obtain ⟨h1, h2, h3⟩ := ready_mem hi
    have h4 := unlisted_set (listed := listed) (i := i) (by omega) h2
    exact wpOp_mono (fun a' w' h' => wpAny_inv hb hstep hdone fuel _ a' w' (by simpa using hs) (by omega) (closed_set (by omega) hcl h3) h') (hstep listed a w i hs hcl h h1 h2 h3)

theorem wp_region_inv {id : Nat} {a : Act} {w : World} {Inv : Array Bool → Act → World → Prop} (hm : P.follows .mixedOrders = true) (hb : backwards .any ops = true)
    (hstart : Inv (Array.replicate ops.size false) a w.drew)
    (hstep : ∀ (listed : Array Bool) (a : Act) (w : World) (i : Nat), listed.size = ops.size → closedL .any ops listed → Inv listed a w → i < ops.size → listed.getD i true = false → (∀ o, ops[i]? = some o → ∀ e ∈ o.after, Region.binds .any e = true → listed.getD e.on false = true) → wpOp P ops Q i (Inv (listed.setIfInBounds i true)) a w)
    (hdone : ∀ (listed : Array Bool) (a : Act) (w : World), listed.size = ops.size → Inv listed a w → allListed ops.size listed → Q .normal a w) : (Code.region id ops true).wp P Q a w := by
  refine wp_region_any hm (wpAny_inv hb hstep hdone ops.size (Array.replicate ops.size false) a w.drew (by simp) ?_ ?_ hstart)
  · exact Nat.le_trans List.countP_le_length (by simp)
  · intro j hj
    rw [Array.getD_eq_getD_getElem?] at hj
    by_cases h : j < ops.size
    · simp [h] at hj
    · simp [h] at hj

/-- The frame with the region's slots as f says. -/
def putsL (a : Act) (ds : List Nat) (f : Nat → Value) : Act := ds.foldl (fun b d => b.put (some d) (f d)) a
def updF (f : Nat → Value) (d : Nat) (v : Value) : Nat → Value := fun j => if j = d then v else f j
theorem setIfInBounds_same (xs : Array Value) (i : Nat) : xs.setIfInBounds i (xs.getD i undef) = xs := by
  apply Array.ext
  · simp
  · intro j h1 h2
    by_cases h : i = j
    · subst h
      simp [Array.getD_eq_getD_getElem?, h2]
    · rw [Array.getElem_setIfInBounds_ne (by simpa using h2) h]
theorem putsL_start (a : Act) : ∀ ds : List Nat, a = putsL a ds (fun d => a.tmps.getD d undef)
  | [] => rfl
  | d :: ds => by
    have h1 : a.put (some d) (a.tmps.getD d undef) = a := by
      unfold Act.put
      simp only
      rw [setIfInBounds_same]
    have ih := putsL_start a ds
    show a = putsL (a.put (some d) (a.tmps.getD d undef)) ds (fun d => a.tmps.getD d undef)
    rw [h1]
    exact ih

/-- The same, where the frame is told by what stands in the region's slots. -/
theorem wp_region_slots {id : Nat} {a : Act} {w : World} (ds : List Nat) (J : Array Bool → (Nat → Value) → World → Prop) (hm : P.follows .mixedOrders = true) (hb : backwards .any ops = true)
    (hstart : J (Array.replicate ops.size false) (fun d => a.tmps.getD d undef) w.drew)
    (hstep : ∀ (listed : Array Bool) (f : Nat → Value) (w : World) (i : Nat), listed.size = ops.size → closedL .any ops listed → J listed f w → i < ops.size → listed.getD i true = false → (∀ o, ops[i]? = some o → ∀ e ∈ o.after, Region.binds .any e = true → listed.getD e.on false = true) → wpOp P ops Q i (fun a' w' => ∃ f', a' = putsL a ds f' ∧ J (listed.setIfInBounds i true) f' w') (putsL a ds f) w)
    (hdone : ∀ (listed : Array Bool) (f : Nat → Value) (w : World), J listed f w → allListed ops.size listed → Q .normal (putsL a ds f) w) : (Code.region id ops true).wp P Q a w := by
  refine wp_region_inv (Inv := fun listed a' w' => ∃ f', a' = putsL a ds f' ∧ J listed f' w') hm hb ⟨_, putsL_start a ds, hstart⟩ ?_ ?_
  · rintro listed a' w' i hs hc ⟨f, rfl, hJ⟩ h1 h2 h3
    exact hstep listed f w' i hs hc hJ h1 h2 h3
  · rintro listed a' w' hs ⟨f, rfl, hJ⟩ hall
    exact hdone listed f w' hJ hall

theorem putsL_size (a : Act) (f : Nat → Value) : ∀ ds : List Nat, (putsL a ds f).tmps.size = a.tmps.size ∧ (putsL a ds f).defers = a.defers := by
  intro ds
  induction ds generalizing a with
  | nil => exact ⟨rfl, rfl⟩
  | cons d ds ih =>
    obtain ⟨h1, h2⟩ := ih (a.put (some d) (f d))
    refine ⟨?_, ?_⟩
    · show (putsL (a.put (some d) (f d)) ds f).tmps.size = _
      rw [h1]
      simp [Act.put]
    · show (putsL (a.put (some d) (f d)) ds f).defers = _
      rw [h2]
      rfl
theorem putsL_get (f : Nat → Value) (j : Nat) : ∀ (ds : List Nat) (a : Act), (putsL a ds f).tmps[j]? = if j ∈ ds ∧ j < a.tmps.size then some (f j) else a.tmps[j]? := by
  intro ds
  induction ds with
  | nil => intro a; simp [putsL]
  | cons d ds ih =>
    intro a
    show (putsL (a.put (some d) (f d)) ds f).tmps[j]? = _
    rw [ih]
    have hsz : (a.put (some d) (f d)).tmps.size = a.tmps.size := by simp [Act.put]
    rw [hsz]
    by_cases h : j ∈ ds ∧ j < a.tmps.size
    · rw [if_pos h, if_pos ⟨List.mem_cons_of_mem _ h.1, h.2⟩]
    · rw [if_neg h]
      show (a.tmps.setIfInBounds d (f d))[j]? = _
      rw [Array.getElem?_setIfInBounds]
      by_cases hd : d = j
      · subst hd
        by_cases hs : d < a.tmps.size
        · simp [hs]
        · simp [hs]
      · have : ¬ (j ∈ d :: ds ∧ j < a.tmps.size) := by
          rintro ⟨h1, h2⟩
          rcases List.mem_cons.1 h1 with h1 | h1
          · exact hd h1.symm
          · exact h ⟨h1, h2⟩
        rw [if_neg this, if_neg hd]
theorem act_ext {a b : Act} (h1 : ∀ j : Nat, a.tmps[j]? = b.tmps[j]?) (h2 : a.defers = b.defers) : a = b := by
  obtain ⟨t, d⟩ := a
  obtain ⟨t', d'⟩ := b
  simp only at h1 h2
  subst h2
  congr 1
  exact Array.ext_getElem? h1
theorem putsL_put (a : Act) (f : Nat → Value) (ds : List Nat) (d : Nat) (v : Value) (hd : d ∈ ds) : (putsL a ds f).put (some d) v = putsL a ds (updF f d v) := by
  apply act_ext
  · intro j
    show ((putsL a ds f).tmps.setIfInBounds d v)[j]? = _
    rw [Array.getElem?_setIfInBounds, (putsL_size a f ds).1, putsL_get, putsL_get]
    unfold updF
    by_cases h : d = j
    · subst h
      by_cases hs : d < a.tmps.size
      · simp [hs, hd]
      · simp [hs]
    · rw [if_neg h]
      have : ¬ j = d := fun e => h e.symm
      simp [this]
  · show (putsL a ds f).defers = _
    rw [(putsL_size a f ds).2, (putsL_size a _ ds).2]
theorem putsL_in (a : Act) (f : Nat → Value) (ds : List Nat) (d : Nat) (hd : d ∈ ds) (hs : d < a.tmps.size) : (putsL a ds f).eval (.tmp d) = f d := by
  show (putsL a ds f).tmps.getD d undef = f d
  rw [Array.getD_eq_getD_getElem?, putsL_get, if_pos ⟨hd, hs⟩]
  rfl
theorem putsL_out (a : Act) (f : Nat → Value) (ds : List Nat) (d : Nat) (hd : ¬ d ∈ ds) : (putsL a ds f).eval (.tmp d) = a.eval (.tmp d) := by
  show (putsL a ds f).tmps.getD d undef = a.tmps.getD d undef
  rw [Array.getD_eq_getD_getElem?, Array.getD_eq_getD_getElem?, putsL_get, if_neg (fun h => hd h.1)]
theorem putsL_in2 (a : Act) (f : Nat → Value) (ds : List Nat) (d : Nat) (hd : d ∈ ds) (hs : d < a.tmps.size) : (putsL a ds f).tmps[d]?.getD undef = f d := by
  rw [putsL_get, if_pos ⟨hd, hs⟩]
  rfl
theorem putsL_out2 (a : Act) (f : Nat → Value) (ds : List Nat) (d : Nat) (hd : ¬ d ∈ ds) : (putsL a ds f).tmps[d]?.getD undef = a.tmps[d]?.getD undef := by
  rw [putsL_get, if_neg (fun h => hd h.1)]
theorem updF_same (f : Nat → Value) (d : Nat) (v : Value) : updF f d v d = v := if_pos rfl
theorem updF_other (f : Nat → Value) {d j : Nat} (v : Value) (h : j ≠ d) : updF f d v j = f j := if_neg h

theorem wpOp_val {i : Nat} {o : Oper} {a : Act} {w w' : World} {K : Act → World → Prop} (ho : ops[i]? = some o) (hg : o.guard = none) {v : Value} (hr : (execOp a.eval o).run P w = .ok (.value v) w') (hk : K (a.put o.dst v) w') : wpOp P ops Q i K a w := by
  have hw : Region.wanted o (yielded ops a.tmps) = true := by simp [Region.wanted, hg]
  unfold wpOp
  rw [ho]
  simp only
  rw [if_pos hw]
  refine Or.inl ?_
  unfold Oper.wp
  rw [hr]
  exact hk
theorem wpOp_skip {i : Nat} {o : Oper} {a : Act} {w w' : World} {K : Act → World → Prop} (ho : ops[i]? = some o) (hg : o.guard = none) (hr : (execOp a.eval o).run P w = .ok .skip w') (hk : K (a.put o.dst undef) w') : wpOp P ops Q i K a w := by
  have hw : Region.wanted o (yielded ops a.tmps) = true := by simp [Region.wanted, hg]
  unfold wpOp
  rw [ho]
  simp only
  rw [if_pos hw]
  refine Or.inl ?_
  unfold Oper.wp
  rw [hr]
  exact hk
theorem wpOp_call {i : Nat} {o : Oper} {a : Act} {w : World} {K : Act → World → Prop} (ho : ops[i]? = some o) (hg : o.guard = none) {n : FuncId} {vs : Array Value} (hr : (execOp a.eval o).run P w = .ok (.enter n vs) w)
    {R : Value → World → Prop} (hc : Calls P n vs w fun e w' => ∃ v, e = .returned v ∧ R v w') (hk : ∀ v w', R v w' → K (a.put o.dst v) w') : wpOp P ops Q i K a w := by
  have hw : Region.wanted o (yielded ops a.tmps) = true := by simp [Region.wanted, hg]
  unfold wpOp
  rw [ho]
  simp only
  rw [if_pos hw]
  refine Or.inl ?_
  unfold Oper.wp
  rw [hr, Oper.upon_enter]
  exact hc.mono (by rintro e w' ⟨v, rfl, h⟩; exact hk v w' h)

/-- Operation j waits for operation i. -/
def depB (ops : Array Oper) (j i : Nat) : Bool := ((ops[j]?).map fun o => o.after.any fun e => Region.binds .any e && decide (e.on = i)).getD false
def readsOk (ops : Array Oper) (slot : Nat → Nat) (reads : Nat → List Nat) : Bool := (List.range ops.size).all fun j => (List.range ops.size).all fun i => decide (i = j) || !(reads j).contains (slot i) || depB ops j i
theorem depB_closed {listed : Array Bool} (hc : closedL .any ops listed) {i j : Nat} (hj : listed.getD j false = true) (h : depB ops j i = true) : listed.getD i false = true := by
  unfold depB at h
  cases ho : ops[j]? with
  | none => rw [ho] at h; cases h
  | some o =>
    rw [ho] at h
    simp only [Option.map_some, Option.getD_some] at h
    rw [Array.any_eq_true'] at h
    obtain ⟨e, he, h2⟩ := h
    simp only [Bool.and_eq_true, decide_eq_true_eq] at h2
    rw [← h2.2]
    exact hc j hj o ho e he h2.1

/-- A region that draws its order, by what each operation leaves: R j. -/
theorem wp_region_props {id : Nat} {a : Act} {w : World} (ds : List Nat) (slot : Nat → Nat) (reads : Nat → List Nat) (R : Nat → (Nat → Value) → World → Prop) (I : World → Prop)
    (hm : P.follows .mixedOrders = true) (hb : backwards .any ops = true) (hchk : readsOk ops slot reads = true) (hstart : I w.drew)
    (hreads : ∀ j f q v W, ¬ q ∈ reads j → R j f W → R j (updF f q v) W)
    (hstep : ∀ i, i < ops.size → ∀ f W, I W → (∀ j, depB ops i j = true → R j f W) → wpOp P ops Q i (fun a' w' => I w' ∧ (∀ j, R j f W → R j f w') ∧ ((∃ v, slot i ∈ ds ∧ a' = (putsL a ds f).put (some (slot i)) v ∧ R i (updF f (slot i) v) w') ∨ (a' = putsL a ds f ∧ R i f w'))) (putsL a ds f) W)
    (hdone : ∀ f W, I W → (∀ j, j < ops.size → R j f W) → Q .normal (putsL a ds f) W) : (Code.region id ops true).wp P Q a w := by
  refine wp_region_slots ds (fun listed f W => I W ∧ ∀ j, j < ops.size → listed.getD j false = true → R j f W) hm hb ⟨hstart, ?_⟩ ?_ ?_
  · intro j hj h
    rw [Array.getD_eq_getD_getElem?] at h
    simp [hj] at h
  · rintro listed f W i hs hc ⟨hI, hR⟩ hi hl hdep
    have hdeps : ∀ j, depB ops i j = true → R j f W := by
      intro j h
      unfold depB at h
      cases ho : ops[i]? with
      | none => rw [ho] at h; cases h
      | some o =>
        rw [ho] at h
        simp only [Option.map_some, Option.getD_some] at h
        rw [Array.any_eq_true'] at h
        obtain ⟨e, he, h2⟩ := h
        simp only [Bool.and_eq_true, decide_eq_true_eq] at h2
        have h3 := hdep o ho e he h2.1
        rw [h2.2] at h3
        refine hR j ?_ h3
        by_cases hj : j < ops.size
        · exact hj
        · rw [Array.getD_eq_getD_getElem?, Array.getElem?_eq_none (by omega)] at h3
          cases h3
    have hnl : listed.getD i false = false := by
      rw [Array.getD_eq_getD_getElem?, Array.getElem?_eq_getElem (by omega)] at hl ⊢
      simpa using hl
    refine wpOp_mono ?_ (hstep i hi f W hI hdeps)
    rintro a' w' ⟨hI', hk, h | ⟨rfl, hRi⟩⟩
    · obtain ⟨v, hsl, rfl, hRi⟩ := h
      refine ⟨updF f (slot i) v, putsL_put _ _ _ _ _ hsl, hI', fun j hj hlj => ?_⟩
      rw [getD_set (by omega)] at hlj
      by_cases hij : i = j
      · subst hij; exact hRi
      · rw [if_neg hij] at hlj
        refine hreads j f (slot i) v w' (fun hmem => ?_) (hk j (hR j hj hlj))
        have h1 := List.all_eq_true.1 (List.all_eq_true.1 hchk j (List.mem_range.2 hj)) i (List.mem_range.2 hi)
        have h2 : (reads j).contains (slot i) = true := List.contains_iff_mem.2 hmem
        rw [h2, decide_eq_false hij] at h1
        have h3 := depB_closed hc hlj (by simpa using h1)
        rw [hnl] at h3
        cases h3
    · refine ⟨f, rfl, hI', fun j hj hlj => ?_⟩
      rw [getD_set (by omega)] at hlj
      by_cases hij : i = j
      · subst hij; exact hRi
      · rw [if_neg hij] at hlj
        exact hk j (hR j hj hlj)
  · rintro listed f W ⟨hI, hR⟩ hall
    exact hdone f W hI fun j hj => hR j hj (hall j hj)

theorem yielded_of {tmps : Array Value} {j d : Nat} {b : Bool} (hd : (ops[j]?).bind (·.dst) = some d) (ht : tmps[d]? = some (.bool b)) : yielded ops tmps j = some b := by
  unfold yielded
  rw [hd]
  simp only [Option.bind_some, ht]
theorem putsL_some (a : Act) (f : Nat → Value) (ds : List Nat) (d : Nat) (hd : d ∈ ds) (hs : d < a.tmps.size) : (putsL a ds f).tmps[d]? = some (f d) := by
  rw [putsL_get, if_pos ⟨hd, hs⟩]
theorem wpOp_valG {i : Nat} {o : Oper} {a : Act} {w w' : World} {K : Act → World → Prop} {j : Nat} {b : Bool} (ho : ops[i]? = some o) (hg : o.guard = some (j, b)) (hy : yielded ops a.tmps j = some b) {v : Value} (hr : (execOp a.eval o).run P w = .ok (.value v) w') (hk : K (a.put o.dst v) w') : wpOp P ops Q i K a w := by
  have hw : Region.wanted o (yielded ops a.tmps) = true := by simp [Region.wanted, hg, hy]
  unfold wpOp
  rw [ho]
  simp only
  rw [if_pos hw]
  refine Or.inl ?_
  unfold Oper.wp
  rw [hr]
  exact hk
theorem wpOp_off {i : Nat} {o : Oper} {a : Act} {w : World} {K : Act → World → Prop} {j : Nat} {b : Bool} (ho : ops[i]? = some o) (hg : o.guard = some (j, b)) (hy : yielded ops a.tmps j = some (!b)) (hk : K (a.put o.dst undef) w) : wpOp P ops Q i K a w := by
  have hw : Region.wanted o (yielded ops a.tmps) = false := by cases b <;> simp [Region.wanted, hg, hy]
  unfold wpOp
  rw [ho]
  simp only
  rw [if_neg (by rw [hw]; simp)]
  exact hk
theorem wpOp_callG {i : Nat} {o : Oper} {a : Act} {w : World} {K : Act → World → Prop} {j : Nat} {b : Bool} (ho : ops[i]? = some o) (hg : o.guard = some (j, b)) (hy : yielded ops a.tmps j = some b) {n : FuncId} {vs : Array Value} (hr : (execOp a.eval o).run P w = .ok (.enter n vs) w)
    {R : Value → World → Prop} (hc : Calls P n vs w fun e w' => ∃ v, e = .returned v ∧ R v w') (hk : ∀ v w', R v w' → K (a.put o.dst v) w') : wpOp P ops Q i K a w := by
  have hw : Region.wanted o (yielded ops a.tmps) = true := by simp [Region.wanted, hg, hy]
  unfold wpOp
  rw [ho]
  simp only
  rw [if_pos hw]
  refine Or.inl ?_
  unfold Oper.wp
  rw [hr, Oper.upon_enter]
  exact hc.mono (by rintro e w' ⟨v, rfl, h⟩; exact hk v w' h)

/-- A table of what the slots from b on hold. -/
def RT (b : Nat) (tab : List Value) (j : Nat) (f : Nat → Value) (_ : World) : Prop := f (b + j) = tab.getD j undef
def slotT (b j : Nat) : Nat := b + j
def readsT (b j : Nat) : List Nat := [b + j]
theorem RT.upd {b : Nat} {tab : List Value} {j : Nat} {f : Nat → Value} {q : Nat} {v : Value} {w : World} (hq : ¬ q ∈ readsT b j) (h : RT b tab j f w) : RT b tab j (updF f q v) w := by
  unfold RT at h ⊢
  rw [updF_other f v (fun e => hq (by rw [← e]; simp [readsT]))]
  exact h

/-- The same table for slots that stand anywhere. -/
def RTs (ss : List Nat) (tab : List Value) (j : Nat) (f : Nat → Value) (_ : World) : Prop := f (ss.getD j 9999) = tab.getD j undef
def slotS (ss : List Nat) (j : Nat) : Nat := ss.getD j 9999
def readsS (ss : List Nat) (j : Nat) : List Nat := [ss.getD j 9999]
theorem RTs.upd {ss : List Nat} {tab : List Value} {j : Nat} {f : Nat → Value} {q : Nat} {v : Value} {w : World} (hq : ¬ q ∈ readsS ss j) (h : RTs ss tab j f w) : RTs ss tab j (updF f q v) w := by
  unfold RTs at h ⊢
  rw [updF_other f v (fun e => hq (by rw [← e]; simp [readsS]))]
  exact h

/-- What each slot holds, as a predicate on its value and the world. -/
def RP (ss : List Nat) (P : Nat → Value → World → Prop) (j : Nat) (f : Nat → Value) (W : World) : Prop := P j (f (ss.getD j 9999)) W
theorem RP.upd {ss : List Nat} {P : Nat → Value → World → Prop} {j : Nat} {f : Nat → Value} {q : Nat} {v : Value} {w : World} (hq : ¬ q ∈ readsS ss j) (h : RP ss P j f w) : RP ss P j (updF f q v) w := by
  unfold RP at h ⊢
  rw [updF_other f v (fun e => hq (by rw [← e]; simp [readsS]))]
  exact h
theorem RP.set {ss : List Nat} {P : Nat → Value → World → Prop} {j : Nat} {f : Nat → Value} {v : Value} {w : World} (h : P j v w) : RP ss P j (updF f (slotS ss j) v) w := by
  unfold RP slotS
  rw [updF_same]
  exact h

def depN (ops : Array Oper) : Nat → Nat → Nat → Bool
  | 0, _, _ => false
  | n + 1, j, i => depB ops j i || (List.range ops.size).any fun k => depB ops j k && depN ops n k i
theorem depN_closed {listed : Array Bool} (hc : closedL .any ops listed) : ∀ {n i j : Nat}, listed.getD j false = true → depN ops n j i = true → listed.getD i false = true
  | 0, _, _, _, h => by cases h
  | n + 1, i, j, hj, h => by
    simp only [depN, Bool.or_eq_true] at h
    rcases h with h | h
    · exact depB_closed hc hj h
    · rw [List.any_eq_true] at h
      obtain ⟨k, _, hk⟩ := h
      rw [Bool.and_eq_true] at hk
      exact depN_closed hc (depB_closed hc hj hk.1) hk.2
def readsOkN (ops : Array Oper) (n : Nat) (slot : Nat → Nat) (reads : Nat → List Nat) : Bool := (List.range ops.size).all fun j => (List.range ops.size).all fun i => decide (i = j) || !(reads j).contains (slot i) || depN ops n j i
def dep2B (ops : Array Oper) (l i : Nat) : Bool := depB ops l i || (List.range ops.size).any fun k => depB ops l k && depB ops k i
theorem dep2B_closed {listed : Array Bool} (hc : closedL .any ops listed) {i j : Nat} (hj : listed.getD j false = true) (h : dep2B ops j i = true) : listed.getD i false = true := by
  unfold dep2B at h
  rw [Bool.or_eq_true] at h
  rcases h with h | h
  · exact depB_closed hc hj h
  · rw [List.any_eq_true] at h
    obtain ⟨k, _, hk⟩ := h
    rw [Bool.and_eq_true] at hk
    exact depB_closed hc (depB_closed hc hj hk.1) hk.2

/-- The same, where the last operation waits for all others: I holds ahead of it, I' behind it. -/
theorem wp_region_last {id : Nat} {a : Act} {w : World} (ds : List Nat) (slot : Nat → Nat) (reads : Nat → List Nat) (R : Nat → (Nat → Value) → World → Prop) (I : World → Prop) (I' : (Nat → Value) → World → Prop) (last n : Nat) (hl : ops.size = last + 1)
    (hm : P.follows .mixedOrders = true) (hb : backwards .any ops = true) (hchk : readsOkN ops n slot reads = true) (hdl : (List.range last).all (fun i => dep2B ops last i) = true) (hstart : I w.drew)
    (hreads : ∀ j f q v W, ¬ q ∈ reads j → R j f W → R j (updF f q v) W)
    (hstep : ∀ i, i < last → ∀ f W, I W → (∀ j, j < last → depB ops i j = true → R j f W) → wpOp P ops Q i (fun a' w' => I w' ∧ (∀ j, R j f W → R j f w') ∧ ∃ v, slot i ∈ ds ∧ a' = (putsL a ds f).put (some (slot i)) v ∧ R i (updF f (slot i) v) w') (putsL a ds f) W)
    (hlast : ∀ f W, I W → (∀ j, j < last → R j f W) → wpOp P ops Q last (fun a' w' => a' = putsL a ds f ∧ I' f w') (putsL a ds f) W)
    (hdone : ∀ f W, I' f W → Q .normal (putsL a ds f) W) : (Code.region id ops true).wp P Q a w := by
  refine wp_region_slots ds (fun listed f W => (listed.getD last false = false → I W ∧ ∀ j, j < last → listed.getD j false = true → R j f W) ∧ (listed.getD last false = true → I' f W)) hm hb ⟨fun _ => ⟨hstart, ?_⟩, ?_⟩ ?_ ?_
  · intro j hj h
    rw [Array.getD_eq_getD_getElem?] at h
    by_cases h2 : j < ops.size
    · simp [h2] at h
    · simp [h2] at h
  · intro h
    rw [Array.getD_eq_getD_getElem?] at h
    by_cases h2 : last < ops.size
    · simp [h2] at h
    · simp [h2] at h
  · rintro listed f W i hs hc ⟨hI, -⟩ hi hun hdep
    have hnl : listed.getD i false = false := by
      rw [Array.getD_eq_getD_getElem?, Array.getElem?_eq_getElem (by omega)] at hun ⊢
      simpa using hun
    have hll : listed.getD last false = false := by
      cases hq : listed.getD last false with
      | false => rfl
      | true =>
        by_cases hil : i = last
        · rw [hil, hq] at hnl; cases hnl
        · have h1 := List.all_eq_true.1 hdl i (List.mem_range.2 (by omega))
          have h2 := dep2B_closed hc hq h1
          rw [h2] at hnl
          cases hnl
    obtain ⟨hIW, hR⟩ := hI hll
    have hdeps : ∀ j, depB ops i j = true → listed.getD j false = true := by
      intro j h
      unfold depB at h
      cases ho : ops[i]? with
      | none => rw [ho] at h; cases h
      | some o =>
        rw [ho] at h
        simp only [Option.map_some, Option.getD_some] at h
        rw [Array.any_eq_true'] at h
        obtain ⟨e, he, h2⟩ := h
        simp only [Bool.and_eq_true, decide_eq_true_eq] at h2
        have h3 := hdep o ho e he h2.1
        rw [h2.2] at h3
        exact h3
    by_cases hil : i = last
    · subst hil
      have hall : ∀ j, j < i → R j f W := by
        intro j hj
        refine hR j hj ?_
        have h1 := List.all_eq_true.1 hdl j (List.mem_range.2 hj)
        unfold dep2B at h1
        rw [Bool.or_eq_true] at h1
        rcases h1 with h1 | h1
        · exact hdeps j h1
        · rw [List.any_eq_true] at h1
          obtain ⟨k, _, hk⟩ := h1
          rw [Bool.and_eq_true] at hk
          exact depB_closed hc (hdeps k hk.1) hk.2
      refine wpOp_mono ?_ (hlast f W hIW hall)
      rintro a' w' ⟨rfl, h⟩
      refine ⟨f, rfl, fun h2 => ?_, fun _ => h⟩
      rw [getD_set (by omega)] at h2
      simp at h2
    · refine wpOp_mono ?_ (hstep i (by omega) f W hIW (fun j hj h => hR j hj (hdeps j h)))
      rintro a' w' ⟨hI', hk, v, hsl, rfl, hRi⟩
      refine ⟨updF f (slot i) v, putsL_put _ _ _ _ _ hsl, fun _ => ⟨hI', fun j hj hlj => ?_⟩, fun h2 => ?_⟩
      · rw [getD_set (by omega)] at hlj
        by_cases hij : i = j
        · subst hij; exact hRi
        · rw [if_neg hij] at hlj
          refine hreads j f (slot i) v w' (fun hmem => ?_) (hk j (hR j hj hlj))
          have h1 := List.all_eq_true.1 (List.all_eq_true.1 hchk j (List.mem_range.2 (by omega))) i (List.mem_range.2 hi)
          have h2 : (reads j).contains (slot i) = true := List.contains_iff_mem.2 hmem
          rw [h2, decide_eq_false hij] at h1
          have h3 := depN_closed (n := n) hc hlj (by simpa using h1)
          rw [hnl] at h3
          cases h3
      · rw [getD_set (by omega), if_neg hil, hll] at h2
        cases h2
  · rintro listed f W ⟨-, h⟩ hall
    exact hdone f W (h (hall last (by omega)))
end

/-- The same, where one operation s is a store that all others wait for or that waits for them, but for some free ones that may come before or behind it (they read slots alone). -/
theorem wp_region_store {P : Program} {ops : Array Oper} {Q : Exit → Act → World → Prop} {id : Nat} {a : Act} {w : World} (ds : List Nat) (slot : Nat → Nat) (reads : Nat → List Nat) (R : Nat → (Nat → Value) → World → Prop) (I : World → Prop) (I' : (Nat → Value) → World → Prop) (s n : Nat) (free : List Nat) (hs0 : s < ops.size)
    (hm : P.follows .mixedOrders = true) (hb : backwards .any ops = true) (hchk : readsOkN ops n slot reads = true) (hdl : (List.range ops.size).all (fun i => decide (i = s) || free.contains i || depN ops n s i) = true) (hstart : I w.drew)
    (hreads : ∀ j f q v W, ¬ q ∈ reads j → R j f W → R j (updF f q v) W)
    (hstep : ∀ i, i < ops.size → i ≠ s → ∀ f W, I W → (∀ j, j ≠ s → depB ops i j = true → R j f W) → wpOp P ops Q i (fun a' w' => I w' ∧ (∀ j, R j f W → R j f w') ∧ ∃ v, slot i ∈ ds ∧ a' = (putsL a ds f).put (some (slot i)) v ∧ R i (updF f (slot i) v) w') (putsL a ds f) W)
    (hfree : ∀ i, i < ops.size → i ∈ free → ∀ f W, I' f W → (∀ j, j ≠ s → depB ops i j = true → R j f W) → wpOp P ops Q i (fun a' w' => w' = W ∧ ∃ v, slot i ∈ ds ∧ a' = (putsL a ds f).put (some (slot i)) v ∧ R i (updF f (slot i) v) W ∧ I' (updF f (slot i) v) W) (putsL a ds f) W)
    (hstore : ∀ f W, I W → (∀ j, j < ops.size → j ≠ s → free.contains j = false → R j f W) → wpOp P ops Q s (fun a' w' => a' = putsL a ds f ∧ I' f w' ∧ ∀ j, R j f W → R j f w') (putsL a ds f) W)
    (hdone : ∀ f W, I' f W → (∀ j, j < ops.size → j ≠ s → R j f W) → Q .normal (putsL a ds f) W) : (Code.region id ops true).wp P Q a w := by
  have hfalse : ∀ k, (Array.replicate ops.size false).getD k false = true → False := fun k h => by
    rw [Array.getD_eq_getD_getElem?] at h
    by_cases h2 : k < ops.size
    · simp [h2] at h
    · simp [h2] at h
  refine wp_region_slots ds (fun listed f W => (listed.getD s false = false → I W) ∧ (∀ j, j < ops.size → j ≠ s → listed.getD j false = true → R j f W) ∧ (listed.getD s false = true → I' f W)) hm hb ⟨fun _ => hstart, fun j _ _ h => (hfalse j h).elim, fun h => (hfalse s h).elim⟩ ?_ ?_
  · rintro listed f W i hs hc ⟨hI, hR, hI2⟩ hi hun hdep
    have hnl : listed.getD i false = false := by
      rw [Array.getD_eq_getD_getElem?, Array.getElem?_eq_getElem (by omega)] at hun ⊢
      simpa using hun
    have hdeps : ∀ j, depB ops i j = true → listed.getD j false = true := by
      intro j h
      unfold depB at h
      cases ho : ops[i]? with
      | none => rw [ho] at h; cases h
      | some o =>
        rw [ho] at h
        simp only [Option.map_some, Option.getD_some] at h
        rw [Array.any_eq_true'] at h
        obtain ⟨e, he, h2⟩ := h
        simp only [Bool.and_eq_true, decide_eq_true_eq] at h2
        have h3 := hdep o ho e he h2.1
        rw [h2.2] at h3
        exact h3
    have hlt : ∀ j, listed.getD j false = true → j < ops.size := fun j h => by
      by_cases h2 : j < ops.size
      · exact h2
      · rw [Array.getD_eq_getD_getElem?, Array.getElem?_eq_none (by omega)] at h; cases h
    have hold : ∀ f' (v : Value) W', f' = updF f (slot i) v → R i f' W' → (∀ j, R j f W → R j f W') → ∀ j, j < ops.size → j ≠ s → (listed.setIfInBounds i true).getD j false = true → R j f' W' := by
      rintro f' v W' rfl hRi hk j hj hjs hlj
      rw [getD_set (by omega)] at hlj
      by_cases hij : i = j
      · subst hij; exact hRi
      · rw [if_neg hij] at hlj
        refine hreads j f (slot i) v W' (fun hmem => ?_) (hk j (hR j hj hjs hlj))
        have h1 := List.all_eq_true.1 (List.all_eq_true.1 hchk j (List.mem_range.2 hj)) i (List.mem_range.2 hi)
        have h2 : (reads j).contains (slot i) = true := List.contains_iff_mem.2 hmem
        rw [h2, decide_eq_false hij] at h1
        have h3 := depN_closed (n := n) hc hlj (by simpa using h1)
        rw [hnl] at h3
        cases h3
    cases hls : listed.getD s false with
    | false =>
      by_cases his : i = s
      · subst his
        refine wpOp_mono ?_ (hstore f W (hI hls) fun j hj hjs hfr => hR j hj hjs ?_)
        · rintro a' w' ⟨rfl, h1, h2⟩
          refine ⟨f, rfl, fun h3 => ?_, fun j hj hjs hlj => ?_, fun _ => h1⟩
          · rw [getD_set (by omega), if_pos rfl] at h3; cases h3
          · rw [getD_set (by omega), if_neg (Ne.symm hjs)] at hlj
            exact h2 j (hR j hj hjs hlj)
        · have h1 := List.all_eq_true.1 hdl j (List.mem_range.2 hj)
          rw [hfr, decide_eq_false hjs] at h1
          have h2 : depN ops n i j = true := by simpa using h1
          cases n with
          | zero => cases h2
          | succ n =>
            simp only [depN, Bool.or_eq_true] at h2
            rcases h2 with h2 | h2
            · exact hdeps j h2
            · rw [List.any_eq_true] at h2
              obtain ⟨k, _, hk⟩ := h2
              rw [Bool.and_eq_true] at hk
              exact depN_closed hc (hdeps k hk.1) hk.2
      · refine wpOp_mono ?_ (hstep i hi his f W (hI hls) (fun j hjs h => hR j (hlt j (hdeps j h)) hjs (hdeps j h)))
        rintro a' w' ⟨h1, hk, v, hsl, rfl, hRi⟩
        refine ⟨updF f (slot i) v, putsL_put _ _ _ _ _ hsl, fun _ => h1, hold _ v w' rfl hRi hk, fun h3 => ?_⟩
        rw [getD_set (by omega), if_neg his, hls] at h3
        cases h3
    | true =>
      have his : i ≠ s := fun e => by rw [e, hls] at hnl; cases hnl
      have hif : i ∈ free := by
        have h1 := List.all_eq_true.1 hdl i (List.mem_range.2 hi)
        rw [decide_eq_false his] at h1
        cases hcf : free.contains i with
        | true => exact List.contains_iff_mem.1 hcf
        | false =>
          rw [hcf] at h1
          have h3 := depN_closed (n := n) hc hls (by simpa using h1)
          rw [hnl] at h3
          cases h3
      refine wpOp_mono ?_ (hfree i hi hif f W (hI2 hls) (fun j hjs h => hR j (hlt j (hdeps j h)) hjs (hdeps j h)))
      rintro a' w' ⟨rfl, v, hsl, rfl, hRi, h1⟩
      refine ⟨updF f (slot i) v, putsL_put _ _ _ _ _ hsl, fun h3 => ?_, hold _ v _ rfl hRi (fun _ h => h), fun _ => h1⟩
      rw [getD_set (by omega), if_neg his, hls] at h3
      cases h3
  · rintro listed f W ⟨hI, hR, hI2⟩ hall
    exact hdone f W (hI2 (hall s hs0)) fun j hj hjs => hR j hj hjs (hall j hj)

end Go.Proofs.Ytoccnindkimjdaa
