/- A region that draws its order, whose last operations stand in a fixed order behind all others (an append and what follows it): a property for each of the first, invariants for the last; of no function of the program; no condition. -/
import Derived.Test.YtoccnindkimjdaaMRegInv
import Derived.Maps.AppendAt
set_option linter.unusedSimpArgs false
set_option linter.unusedVariables false
namespace Go.Proofs.Ytoccnindkimjdaa
open Go.RowKit Go.Lib Go.Proofs

def tailOk (ops : Array Oper) (n s : Nat) : Bool := (List.range ops.size).all fun i => decide (i < s) || (List.range i).all fun j => depN ops n i j
def readsOkT (ops : Array Oper) (n s : Nat) (slot : Nat → Nat) (reads : Nat → List Nat) : Bool := (List.range s).all fun j => (List.range s).all fun i => decide (i = j) || !(reads j).contains (slot i) || depN ops n j i

theorem wp_region_tail {P : Program} {ops : Array Oper} {Q : Exit → Act → World → Prop} {id : Nat} {a : Act} {w : World} (ds : List Nat) (slot : Nat → Nat) (reads : Nat → List Nat) (R : Nat → (Nat → Value) → World → Prop) (I : World → Prop) (It : Nat → (Nat → Value) → World → Prop) (s n : Nat) (hs0 : s < ops.size)
    (hm : P.follows .mixedOrders = true) (hb : backwards .any ops = true) (hchk : readsOkT ops n s slot reads = true) (htl : tailOk ops n s = true) (hstart : I w.drew)
    (hreads : ∀ j f q v W, ¬ q ∈ reads j → R j f W → R j (updF f q v) W)
    (hstep : ∀ i, i < s → ∀ f W, I W → (∀ j, depB ops i j = true → R j f W) → wpOp P ops Q i (fun a' w' => I w' ∧ (∀ j, R j f W → R j f w') ∧ ∃ v, slot i ∈ ds ∧ a' = (putsL a ds f).put (some (slot i)) v ∧ R i (updF f (slot i) v) w') (putsL a ds f) W)
    (hfirst : ∀ f W, I W → (∀ j, j < s → R j f W) → It 0 f W)
    (htail : ∀ i, s ≤ i → i < ops.size → ∀ f W, It (i - s) f W → wpOp P ops Q i (fun a' w' => ∃ f', a' = putsL a ds f' ∧ It (i - s + 1) f' w') (putsL a ds f) W)
    (hdone : ∀ f W, It (ops.size - s) f W → Q .normal (putsL a ds f) W) : (Code.region id ops true).wp P Q a w := by
  have hfalse : ∀ k, (Array.replicate ops.size false).getD k false = true → False := fun k h => by
    rw [Array.getD_eq_getD_getElem?] at h
    by_cases h2 : k < ops.size
    · simp [h2] at h
    · simp [h2] at h
  have hT : ∀ i, i < ops.size → s ≤ i → ∀ j, j < i → depN ops n i j = true := fun i hi hsi j hj => by
    have h1 := List.all_eq_true.1 htl i (List.mem_range.2 hi)
    rw [decide_eq_false (by omega), Bool.false_or] at h1
    exact List.all_eq_true.1 h1 j (List.mem_range.2 hj)
  refine wp_region_slots ds (fun listed f W => (listed.getD s false = false → I W ∧ ∀ j, j < s → listed.getD j false = true → R j f W) ∧ ∀ k, s < k → k ≤ ops.size → listed.getD (k - 1) false = true → (k < ops.size → listed.getD k false = false) → It (k - s) f W) hm hb ⟨fun _ => ⟨hstart, fun j _ h => (hfalse j h).elim⟩, fun k _ _ h => (hfalse _ h).elim⟩ ?_ ?_
  · rintro listed f W i hs hc ⟨hI, hI2⟩ hi hun hdep
    have hnl : listed.getD i false = false := by
      rw [Array.getD_eq_getD_getElem?, Array.getElem?_eq_getElem (by omega)] at hun ⊢
      simpa using hun
    have hdeps : ∀ j, depB ops i j = true → listed.getD j false = true := by
      intro j h
      unfold depB at h
      cases ho : ops[i]? with
      | none => rw [ho] at h; cases h
      | some o =>
        rw [ho] at h
        simp only [Option.map_some, Option.getD_some] at h
        rw [Array.any_eq_true'] at h
        obtain ⟨e, he, h2⟩ := h
        simp only [Bool.and_eq_true, decide_eq_true_eq] at h2
        have h3 := hdep o ho e he h2.1
        rw [h2.2] at h3
        exact h3
    have hdepsN : ∀ j, depN ops n i j = true → listed.getD j false = true := by
      intro j h2
      cases n with
      | zero => cases h2
      | succ n =>
        simp only [depN, Bool.or_eq_true] at h2
        rcases h2 with h2 | h2
        · exact hdeps j h2
        · rw [List.any_eq_true] at h2
          obtain ⟨k, _, hk⟩ := h2
          rw [Bool.and_eq_true] at hk
          exact depN_closed hc (hdeps k hk.1) hk.2
    have hlt : ∀ j, listed.getD j false = true → j < ops.size := fun j h => by
      by_cases h2 : j < ops.size
      · exact h2
      · rw [Array.getD_eq_getD_getElem?, Array.getElem?_eq_none (by omega)] at h; cases h
    have hno : ∀ k, s ≤ k → i < k → listed.getD k false = false := fun k hk hik => by
      cases hl : listed.getD k false with
      | false => rfl
      | true =>
        have h3 := depN_closed (n := n) hc hl (hT k (hlt k hl) hk i hik)
        rw [hnl] at h3
        cases h3
    by_cases his : i < s
    · have hls := hno s (Nat.le_refl _) his
      obtain ⟨hIW, hR⟩ := hI hls
      refine wpOp_mono ?_ (hstep i his f W hIW fun j h => ?_)
      · rintro a' w' ⟨h1, hk, v, hsl, rfl, hRi⟩
        refine ⟨updF f (slot i) v, putsL_put _ _ _ _ _ hsl, fun _ => ⟨h1, fun j hj hlj => ?_⟩, fun k hk1 hk2 hlk _ => ?_⟩
        · rw [getD_set (by omega)] at hlj
          by_cases hij : i = j
          · subst hij; exact hRi
          · rw [if_neg hij] at hlj
            refine hreads j f (slot i) v w' (fun hmem => ?_) (hk j (hR j hj hlj))
            have h1 := List.all_eq_true.1 (List.all_eq_true.1 hchk j (List.mem_range.2 hj)) i (List.mem_range.2 his)
            have h2 : (reads j).contains (slot i) = true := List.contains_iff_mem.2 hmem
            rw [h2, decide_eq_false hij] at h1
            have h3 := depN_closed (n := n) hc hlj (by simpa using h1)
            rw [hnl] at h3
            cases h3
        · rw [getD_set (by omega), if_neg (by omega), hno (k - 1) (by omega) (by omega)] at hlk
          cases hlk
      · have hlj := hdeps j h
        by_cases hjs : j < s
        · exact hR j hjs hlj
        · exfalso
          by_cases hjs2 : j = s
          · rw [hjs2, hls] at hlj; cases hlj
          · have := hno j (by omega) (by omega)
            rw [this] at hlj; cases hlj
    · have hall : ∀ j, j < i → listed.getD j false = true := fun j hj => hdepsN j (hT i hi (by omega) j hj)
      have hIt : It (i - s) f W := by
        by_cases his2 : i = s
        · rw [his2, Nat.sub_self]
          rw [his2] at hnl hall
          obtain ⟨hIW, hR⟩ := hI hnl
          exact hfirst f W hIW fun j hj => hR j hj (hall j hj)
        · exact hI2 i (by omega) (by omega) (hall (i - 1) (by omega)) fun _ => hnl
      refine wpOp_mono ?_ (htail i (by omega) hi f W hIt)
      rintro a' w' ⟨f', rfl, h1⟩
      refine ⟨f', rfl, fun h2 => ?_, fun k hk1 hk2 hlk hlk2 => ?_⟩
      · exfalso
        rw [getD_set (by omega)] at h2
        by_cases his2 : i = s
        · rw [if_pos his2] at h2; cases h2
        · rw [if_neg his2, hall s (by omega)] at h2; cases h2
      · have hki : k = i + 1 := by
          rw [getD_set (by omega)] at hlk
          by_cases hk3 : k - 1 = i
          · omega
          · rw [if_neg (fun e => hk3 e.symm)] at hlk
            by_cases hk4 : i < k - 1
            · rw [hno (k - 1) (by omega) hk4] at hlk; cases hlk
            · have h2 := hlk2 (by omega)
              rw [getD_set (by omega)] at h2
              by_cases hk5 : i = k
              · rw [if_pos hk5] at h2; cases h2
              · rw [if_neg hk5, hall k (by omega)] at h2; cases h2
        rw [hki, show i + 1 - s = i - s + 1 by omega]
        exact h1
  · rintro listed f W ⟨hI, hI2⟩ hall
    exact hdone f W (hI2 ops.size hs0 (Nat.le_refl _) (hall _ (by omega)) fun h => absurd h (Nat.lt_irrefl _))

/-- An append onto a row of the call's own, as an operation of a region that draws. -/
theorem wpOp_append {P : Program} {ops : Array Oper} {Q : Exit → Act → World → Prop} {i : Nat} {o : Oper} {a : Act} {w : World} {K : Act → World → Prop} (ho : ops[i]? = some o) (hgd : o.guard = none) (s x : Operand) (t : TypeId)
    (hop : o.op = .call { callee := .builtin .append, args := #[s, x], argTypes := #[t, t] })
    (base : Nat) (e : TypeId) (inf : TypeInfo) (z : Value) (size bytes : Nat) (ht : P.underlying t = some (.slice e)) (hi : P.info? e = some inf) (hz : inf.zero = some z)
    (hsize : inf.size = size) (hby : inf.bytes = bytes) (hzs : z.cells.size = size) (hsz : 0 < size)
    (v : Value) (n : Nat) (xs : List Value) (hs : a.eval s = v) (hown : w.ownsRow base e size v n xs)
    (ad : Addr) (m c : Nat) (news : List Value) (hx : a.eval x = .slice (some ad) m c) (hl : news.length = m * size) (hnews : ∀ j u, news[j]? = some u → w.cell? (ad.add j) = some u) (h1 : ∀ u ∈ news, u.oneCell' = true)
    (h63 : n + m ≤ maxLen) (hbytes : (n + m) * bytes ≤ 140737488355328) (hbase : base ≤ w.heap.size)
    (hK : ∀ v' w', w'.ownsRow base e size v' (n + m) (xs ++ news) → w.grownBy w' v.ownBlock → K (a.put o.dst v') w') : wpOp P ops Q i K a w := by
  obtain ⟨v', w', hr, h2, h3, _⟩ := run_append_own_at (P := P) w base t o.type e inf z size bytes ht hi hz hsize hby hzs hsz v n xs hown ad m c news hl hnews h1 h63 hbytes hbase
  refine wpOp_val ho hgd (v := v') (w' := w') ?_ (hK v' w' h2 h3)
  unfold execOp
  simp only [hop, resolve, invoke, builtin, Sem.run_bind, Sem.run_pure, Result.andThen_ok, List.map_toArray, List.map_cons, List.map_nil, hs, hx, hr]
theorem obj_new_cells {V : World} {g : Nat} {cs : Array Value} {T : TypeId} (h : V.heap[g]? = some (.cells cs T (0, 0))) : ∀ j u, cs.toList[j]? = some u → V.cell? ((⟨g, 0, none⟩ : Addr).add j) = some u := by
  intro j u hu
  rw [show (⟨g, 0, none⟩ : Addr).add j = ⟨g, 0 + j, none⟩ by unfold Addr.add; split <;> simp_all, Nat.zero_add]
  have h2 : V.cell? ⟨g, j, none⟩ = cs[j]? := by simp [World.cell?, h]
  rw [h2]
  simpa using hu

theorem run_fresh_append {P : Program} (w : World) (base : Nat) (t ty e : TypeId) (i : TypeInfo) (z : Value) (size bytes : Nat) (ht : P.underlying t = some (.slice e)) (hi : P.info? e = some i) (hz : i.zero = some z)
    (hsize : i.size = size) (hby : i.bytes = bytes) (hzs : z.cells.size = size) (hsz : 0 < size)
    (ao : Option Addr) (m c : Nat) (news : List Value) (hl : news.length = m * size) (hnews : m = 0 ∨ ∃ ad : Addr, ao = some ad ∧ ∀ j u, news[j]? = some u → w.cell? (ad.add j) = some u) (h1 : ∀ u ∈ news, u.oneCell' = true)
    (h63 : m ≤ maxLen) (hbytes : m * bytes ≤ 140737488355328) (hbase : base ≤ w.heap.size) :
    ∃ v' w', (Builtin.append_ #[t, t] ty #[.slice none 0 0, .slice ao m c]).run P w = .ok v' w' ∧ w'.ownsRow base e size v' m news ∧ w.grownBy w' none := by
  by_cases hm : m = 0
  · subst hm
    have hn : news = [] := List.eq_nil_of_length_eq_zero (by simpa using hl)
    subst hn
    refine ⟨.slice none 0 0, w, ?_, World.ownsRow_nil w base e size, grownBy_refl w none⟩
    cases ao <;> simp [Builtin.append_, run_underlying ht, sizeOf, typeInfo, hi, Builtin.lenOf, Builtin.firstCells, loadCells, loadCellsFrom]
  · obtain ⟨ad, rfl, hc⟩ := hnews.resolve_left hm
    obtain ⟨v', w', hr, h2, h3, _⟩ := run_append_own_at (P := P) w base t ty e i z size bytes ht hi hz hsize hby hzs hsz (.slice none 0 0) 0 [] (World.ownsRow_nil _ _ _ _) ad m c news hl hc h1 (by omega) (by simpa using hbytes) hbase
    rw [Nat.zero_add, List.nil_append] at h2
    exact ⟨v', w', hr, h2, h3⟩

theorem wpOp_fresh {P : Program} {ops : Array Oper} {Q : Exit → Act → World → Prop} {i : Nat} {o : Oper} {a : Act} {w : World} {K : Act → World → Prop} (ho : ops[i]? = some o) (hgd : o.guard = none) (s x : Operand) (t : TypeId)
    (hop : o.op = .call { callee := .builtin .append, args := #[s, x], argTypes := #[t, t] })
    (base : Nat) (e : TypeId) (inf : TypeInfo) (z : Value) (size bytes : Nat) (ht : P.underlying t = some (.slice e)) (hi : P.info? e = some inf) (hz : inf.zero = some z)
    (hsize : inf.size = size) (hby : inf.bytes = bytes) (hzs : z.cells.size = size) (hsz : 0 < size)
    (hs : a.eval s = .slice none 0 0) (ao : Option Addr) (m c : Nat) (news : List Value) (hx : a.eval x = .slice ao m c) (hl : news.length = m * size)
    (hnews : m = 0 ∨ ∃ ad : Addr, ao = some ad ∧ ∀ j u, news[j]? = some u → w.cell? (ad.add j) = some u) (h1 : ∀ u ∈ news, u.oneCell' = true)
    (h63 : m ≤ maxLen) (hbytes : m * bytes ≤ 140737488355328) (hbase : base ≤ w.heap.size)
    (hK : ∀ v' w', w'.ownsRow base e size v' m news → w.grownBy w' none → K (a.put o.dst v') w') : wpOp P ops Q i K a w := by
  obtain ⟨v', w', hr, h2, h3⟩ := run_fresh_append (P := P) w base t o.type e inf z size bytes ht hi hz hsize hby hzs hsz ao m c news hl hnews h1 h63 hbytes hbase
  refine wpOp_val ho hgd (v := v') (w' := w') ?_ (hK v' w' h2 h3)
  unfold execOp
  simp only [hop, resolve, invoke, builtin, Sem.run_bind, Sem.run_pure, Result.andThen_ok, List.map_toArray, List.map_cons, List.map_nil, hs, hx, hr]

end Go.Proofs.Ytoccnindkimjdaa
