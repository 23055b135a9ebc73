/- Texts of one claim, merged: RegP, HsB. -/
import Derived.Test.YtoccnindkimjdaaMRegInv
import Derived.Test.YtoccnindkimjdaaMHsA
/- Drawn regions in two phases: up to a first store the slots are told by their properties; from it on by one relation with the list of what is done. -/
set_option linter.unusedSimpArgs false
set_option linter.unusedVariables false
set_option linter.unusedSimpArgs false
set_option linter.unusedVariables false
namespace Go.Proofs.Ytoccnindkimjdaa
open Go.RowKit Go.Lib Go.Proofs

theorem depN_of {ops : Array Oper} {listed : Array Bool} (hc : closedL .any ops listed) {n i j : Nat} (hd : ∀ k, depB ops j k = true → listed.getD k false = true) (h : depN ops n j i = true) : listed.getD i false = true := by
  cases n with
  | zero => cases h
  | succ n =>
    simp only [depN, Bool.or_eq_true] at h
    rcases h with h | h
    · exact hd i h
    · rw [List.any_eq_true] at h
      obtain ⟨k, _, hk⟩ := h
      rw [Bool.and_eq_true] at hk
      exact depN_closed hc (hd k hk.1) hk.2
theorem wp_region_phase {P : Program} {ops : Array Oper} {Q : Exit → Act → World → Prop} {id : Nat} {a : Act} {w : World} (ds : List Nat) (slot : Nat → Nat) (reads : Nat → List Nat) (R : Nat → (Nat → Value) → World → Prop) (I : World → Prop) (K : Array Bool → (Nat → Value) → World → Prop) (s n : Nat) (free : List Nat) (hs0 : s < ops.size)
    (hm : P.follows .mixedOrders = true) (hb : backwards .any ops = true) (hchk : readsOkN ops n slot reads = true) (hear : (List.range s).all (fun i => free.contains i || depN ops n s i) = true) (hlat : (List.range ops.size).all (fun i => decide (i ≤ s) || depN ops n i s) = true) (hstart : I w.drew)
    (hreads : ∀ j f q v W, ¬ q ∈ reads j → R j f W → R j (updF f q v) W)
    (hstep : ∀ i, i < s → ∀ f W, I W → (∀ j, j < s → depB ops i j = true → R j f W) → wpOp P ops Q i (fun a' w' => I w' ∧ (∀ j, R j f W → R j f w') ∧ ∃ v, slot i ∈ ds ∧ a' = (putsL a ds f).put (some (slot i)) v ∧ R i (updF f (slot i) v) w') (putsL a ds f) W)
    (hfirst : ∀ (L : Array Bool) f W, L.size = ops.size → L.getD s false = false → I W → (∀ j, j < s → L.getD j false = true → R j f W) → (∀ j, j < s → free.contains j = false → L.getD j false = true) → (∀ j, s < j → j < ops.size → L.getD j false = false) → wpOp P ops Q s (fun a' w' => a' = putsL a ds f ∧ K (L.setIfInBounds s true) f w') (putsL a ds f) W)
    (hlate : ∀ i, i < ops.size → (s < i ∨ free.contains i = true) → ∀ (L : Array Bool) f W, L.size = ops.size → K L f W → L.getD i false = false → (∀ j, depB ops i j = true → L.getD j false = true) → wpOp P ops Q i (fun a' w' => ∃ f', a' = putsL a ds f' ∧ K (L.setIfInBounds i true) f' w') (putsL a ds f) W)
    (hdone : ∀ (L : Array Bool) f W, K L f W → (∀ i, i < ops.size → L.getD i false = true) → Q .normal (putsL a ds f) W) : (Code.region id ops true).wp P Q a w := by
  refine wp_region_slots ds (fun listed f W => (listed.getD s false = false → I W ∧ ∀ j, j < s → listed.getD j false = true → R j f W) ∧ (listed.getD s false = true → K listed f W)) hm hb ⟨fun _ => ⟨hstart, ?_⟩, ?_⟩ ?_ ?_
  · intro j hj h
    rw [Array.getD_eq_getD_getElem?] at h
    by_cases h2 : j < ops.size
    · simp [h2] at h
    · simp [h2] at h
  · intro h
    rw [Array.getD_eq_getD_getElem?] at h
    simp [hs0] at h
  · rintro listed f W i hs hc ⟨hI, hK⟩ hi hun hdep
    have hnl : listed.getD i false = false := by
      rw [Array.getD_eq_getD_getElem?, Array.getElem?_eq_getElem (by omega)] at hun ⊢
      simpa using hun
    have hdeps : ∀ j, depB ops i j = true → listed.getD j false = true := by
      intro j h
      unfold depB at h
      cases ho : ops[i]? with
      | none => rw [ho] at h; cases h
      | some o =>
        rw [ho] at h
        simp only [Option.map_some, Option.getD_some] at h
        rw [Array.any_eq_true'] at h
        obtain ⟨e, he, h2⟩ := h
        simp only [Bool.and_eq_true, decide_eq_true_eq] at h2
        have h3 := hdep o ho e he h2.1
        rw [h2.2] at h3
        exact h3
    cases hls : listed.getD s false with
    | false =>
      obtain ⟨hIW, hR⟩ := hI hls
      by_cases his : i = s
      · subst his
        refine wpOp_mono ?_ (hfirst listed f W hs hls hIW hR (fun j hj hf => ?_) (fun j hj hjn => ?_))
        · rintro a' w' ⟨rfl, h⟩
          refine ⟨f, rfl, fun h2 => ?_, fun _ => h⟩
          rw [getD_set (by omega)] at h2
          simp at h2
        · have h1 := List.all_eq_true.1 hear j (List.mem_range.2 hj)
          rw [hf, Bool.false_or] at h1
          exact depN_of hc hdeps h1
        · cases hq : listed.getD j false with
          | false => rfl
          | true =>
            have h1 := List.all_eq_true.1 hlat j (List.mem_range.2 hjn)
            rw [decide_eq_false (by omega), Bool.false_or] at h1
            rw [depN_closed hc hq h1] at hls
            cases hls
      · by_cases hlt : i < s
        · refine wpOp_mono ?_ (hstep i hlt f W hIW (fun j hj h => hR j hj (hdeps j h)))
          rintro a' w' ⟨hI', hk, v, hsl, rfl, hRi⟩
          refine ⟨updF f (slot i) v, putsL_put _ _ _ _ _ hsl, fun _ => ⟨hI', fun j hj hlj => ?_⟩, fun h2 => ?_⟩
          · rw [getD_set (by omega)] at hlj
            by_cases hij : i = j
            · subst hij; exact hRi
            · rw [if_neg hij] at hlj
              refine hreads j f (slot i) v w' (fun hmem => ?_) (hk j (hR j hj hlj))
              have h1 := List.all_eq_true.1 (List.all_eq_true.1 hchk j (List.mem_range.2 (by omega))) i (List.mem_range.2 hi)
              have h2 : (reads j).contains (slot i) = true := List.contains_iff_mem.2 hmem
              rw [h2, decide_eq_false hij] at h1
              have h3 := depN_closed (n := n) hc hlj (by simpa using h1)
              rw [hnl] at h3
              cases h3
          · rw [getD_set (by omega), if_neg his, hls] at h2
            cases h2
        · have h1 := List.all_eq_true.1 hlat i (List.mem_range.2 hi)
          rw [decide_eq_false (by omega), Bool.false_or] at h1
          rw [depN_of hc hdeps h1] at hls
          cases hls
    | true =>
      have his : i ≠ s := fun e => by rw [e, hls] at hnl; cases hnl
      have hor : s < i ∨ free.contains i = true := by
        by_cases hlt : s < i
        · exact Or.inl hlt
        · refine Or.inr ?_
          have h1 := List.all_eq_true.1 hear i (List.mem_range.2 (by omega))
          rw [Bool.or_eq_true] at h1
          rcases h1 with h1 | h1
          · exact h1
          · rw [depN_closed hc hls h1] at hnl
            cases hnl
      refine wpOp_mono ?_ (hlate i hi hor listed f W hs (hK hls) hnl hdeps)
      rintro a' w' ⟨f', rfl, h⟩
      refine ⟨f', rfl, fun h2 => ?_, fun _ => h⟩
      rw [getD_set (by omega), if_neg his, hls] at h2
      cases h2
  · rintro listed f W ⟨-, h⟩ hall
    exact hdone listed f W (h (hall s hs0)) hall

end Go.Proofs.Ytoccnindkimjdaa

/- One step of the source's histories: what is presented or corrected next; of no function of the program; no condition. -/
set_option linter.unusedSimpArgs false
set_option linter.unusedVariables false
namespace Go.Proofs.Ytoccnindkimjdaa
open Go.RowKit Go.Lib Go.Proofs

def presP (h : Hst) (r : Int) : Prs := ⟨r, versM r h.pres + 1, restM r h⟩
def presH (h : Hst) (r : Int) : Hst := ⟨h.led, h.pres ++ [presP h r], h.cors⟩
def corH (h : Hst) (c : Cor) : Hst := ⟨h.led, h.pres, h.cors ++ [c]⟩
/-- A slice that does not stand in a block. -/
def OffB (b : Nat) (v : Value) : Prop := ∀ b' o e n c, v = .slice (some ⟨b', o, e⟩) n c → b' ≠ b
theorem list_off {α : Type} {f : α → List Value} {m : Nat} {w w' : World} {v : Value} {l : List α} {b0 : Nat} (h : ListAt f m w v l) (hne : OffB b0 v) (hg : w.grownBy w' (some b0)) : ListAt f m w' v l := by
  obtain ⟨h1, ao', cap', h2, h3, h4⟩ := h
  refine ⟨h1, ao', cap', h2, h3, ?_⟩
  rcases h4 with h4 | ⟨b', o', e, hb', hc'⟩
  · exact Or.inl h4
  · refine Or.inr ⟨b', o', e, Nat.lt_of_lt_of_le hb' hg.size, fun j hj => ?_⟩
    rw [← hc' j hj]
    unfold World.cell?
    simp only
    have := hne b' o' none _ _ (by rw [h2, e])
    rw [hg.block b' hb' (by simp [this])]
theorem pres_off {w : World} {u : Value} {P : List Prs} {p : Prs} {b : Nat} (h : ListAt prsC 7 w u (P ++ [p])) (hv : p.ver ≠ 0) (hb : w.heap[b]? = some (.cells #[.int .i64 0, .int .i64 0, .int .i64 0, .int .i64 0, .int .i64 0, .int .i64 0, .int .i64 0] 40 (0, 0))) : OffB b u := by
  intro b' o e n c hu hbb
  subst hbb
  obtain ⟨ao, cap, e0, hcap, hc⟩ := h.shape prsF
  obtain ⟨b2, o2, e2, hb2, hcc⟩ := hc (by simp)
  have h1 := hcc P.length (by simp) 1 (by omega)
  rw [hu, e2] at e0
  injection e0 with e0 _ _
  injection e0 with e0
  injection e0 with e0 e1 _
  subst e0 e1
  rw [obj_cell hb] at h1
  have e3 : (prsC ((P ++ [p])[P.length]'(by simp)))[1]? = some (.int .i64 p.ver) := by
    rw [List.getElem_append_right (Nat.le_refl _)]
    simp [prsC]
  rw [e3] at h1
  generalize o + P.length * 7 + 1 = k at h1
  match k, h1 with
  | 0, h1 => simp at h1; exact hv h1.symm
  | 1, h1 => simp at h1; exact hv h1.symm
  | 2, h1 => simp at h1; exact hv h1.symm
  | 3, h1 => simp at h1; exact hv h1.symm
  | 4, h1 => simp at h1; exact hv h1.symm
  | 5, h1 => simp at h1; exact hv h1.symm
  | 6, h1 => simp at h1; exact hv h1.symm
  | k + 7, h1 => simp at h1
theorem lone_hst {w : World} {b : Nat} {a0 a1 a2 : Option Addr} {n0 n1 n2 c0 c1 c2 : Nat} (h : w.heap[b]? = some (.cells #[.slice a0 n0 c0, .slice a1 n1 c1, .slice a2 n2 c2] 31 (0, 0))) : ∀ (o : Nat) (x y : Int), w.cell? ⟨b, o, none⟩ = some (.int .i64 x) → w.cell? ⟨b, o + 1, none⟩ = some (.int .i64 y) → False := by
  intro o x y h0 h1
  rw [obj_cell h] at h0
  match o, h0 with
  | 0, h0 => simp at h0
  | 1, h0 => simp at h0
  | 2, h0 => simp at h0
  | k + 3, h0 => simp at h0
theorem prs_turn {w w' : World} {u : Value} {P : List Prs} {tb : Nat} (h : ListAt prsC 7 w u P) (hs : SrcAt w tb) (hg : w.grownBy w' (some tb)) : ListAt prsC 7 w' u P :=
  list_move prsF (by decide) prs_two h (fun _ _ _ _ h0 h1 => not_src hs h0 h1) hg
theorem cors_turn {w w' : World} {u : Value} {C : List Cor} {tb : Nat} (h : CorsAt w u C) (hs : SrcAt w tb) (hg : w.grownBy w' (some tb)) : CorsAt w' u C :=
  h.move (fun _ _ _ _ h0 h1 => not_src hs h0 h1) hg
theorem cors_keep {w w' : World} {u : Value} {C : List Cor} {b : Nat} {a0 a1 a2 : Option Addr} {n0 n1 n2 c0 c1 c2 : Nat} (h : CorsAt w u C) (hb : w.heap[b]? = some (.cells #[.slice a0 n0 c0, .slice a1 n1 c1, .slice a2 n2 c2] 31 (0, 0))) (hg : w.grownBy w' (some b)) : CorsAt w' u C :=
  h.move (fun b' o x y h0 h1 e => by subst e; exact lone_hst hb _ _ _ h0 h1) hg
theorem prs_keep {w w' : World} {u : Value} {P : List Prs} {b : Nat} {a0 a1 a2 : Option Addr} {n0 n1 n2 c0 c1 c2 : Nat} (h : ListAt prsC 7 w u P) (hb : w.heap[b]? = some (.cells #[.slice a0 n0 c0, .slice a1 n1 c1, .slice a2 n2 c2] 31 (0, 0))) (hg : w.grownBy w' (some b)) : ListAt prsC 7 w' u P :=
  list_move prsF (by decide) prs_two h (fun b' o x y h0 h1 e => by subst e; exact lone_hst hb _ _ _ h0 h1) hg
/-- What stands behind the first store of a step that presents. -/
structure StK (w : World) (tb b8 b9 : Nat) (vl vc u : Value) (c9 : Array Value) (P : List Prs) (W : World) : Prop where
  si : SI w tb W
  x8 : W.heap[b8]? = some (.cells #[vl, u, vc] 31 (0, 0))
  x9 : W.heap[b9]? = some (.cells c9 40 (0, 0))
  s9 : c9.size = 7
  l8 : w.heap.size ≤ b8
  l9 : w.heap.size ≤ b9
  row : ListAt prsC 7 W u P
  off : OffB b9 u
theorem StK.first {w W : World} {tb b8 b9 : Nat} {vl vc u : Value} {P : List Prs} {p : Prs} (hs : SI w tb W) (h8 : W.heap[b8]? = some (.cells #[.slice none 0 0, .slice none 0 0, .slice none 0 0] 31 (0, 0))) (h9 : W.heap[b9]? = some (.cells #[.int .i64 0, .int .i64 0, .int .i64 0, .int .i64 0, .int .i64 0, .int .i64 0, .int .i64 0] 40 (0, 0))) (l8 : w.heap.size ≤ b8) (l9 : w.heap.size ≤ b9) (hr : ListAt prsC 7 W u (P ++ [p])) (hv : p.ver ≠ 0) : StK w tb b8 b9 vl vc u #[.int .i64 0, .int .i64 0, .int .i64 0, .int .i64 0, .int .i64 0, .int .i64 0, .int .i64 0] (P ++ [p]) (put3 W b8 vl u vc) := by
  have hg := put3_grown2 W b8 vl u vc
  exact ⟨hs.grown hg fun r e => by injection e with e; omega, put3_at h8 rfl _ _ _, box_keep h9 hg (notOf_box h8 (by decide)), rfl, l8, l9, prs_keep hr h8 hg, pres_off hr hv h9⟩
theorem StK.store {w W W' : World} {tb b8 b9 : Nat} {vl vc u : Value} {c9 c9' : Array Value} {P : List Prs} (h : StK w tb b8 b9 vl vc u c9 P W) (hg : W.grownBy W' (some b9)) (h9 : W'.heap[b9]? = some (.cells c9' 40 (0, 0))) (hs : c9'.size = 7) : StK w tb b8 b9 vl vc u c9' P W' :=
  ⟨h.si.grown hg fun r e => by injection e with e; have := h.l9; omega, box_keep h.x8 hg (notOf_box h.x9 (by decide)), h9, hs, h.l8, h.l9, list_off h.row h.off hg, h.off⟩

end Go.Proofs.Ytoccnindkimjdaa
