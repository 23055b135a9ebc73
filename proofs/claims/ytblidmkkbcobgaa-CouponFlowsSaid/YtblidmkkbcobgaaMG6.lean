/- Texts of one claim, merged: OwnO, ClnHld, ClnMv, ClnSec, RhP, RegT, RegW, RhQ, RhT. -/
import Derived.Test.YtblidmkkbcobgaaMG1
import Derived.Maps.AppendAt
import Derived.Lib.AppendZeros
import Derived.Deep.Upon
import Derived.Test.YtblidmkkbcobgaaMG5
import Derived.Test.YtblidmkkbcobgaaMRegInv
import Derived.Deep.DeepCutAuto
/- Appends of a whole slice, empty or not, onto a row of the call's own; of no function of the program; no condition. -/
set_option linter.unusedSimpArgs false
set_option linter.unusedVariables false
set_option linter.unusedSimpArgs false
set_option linter.unusedVariables false
namespace Go.Proofs.Ytblidmkkbcobgaa
open Go.RowKit Go.Lib Go.Proofs

/-- An append of a whole slice, empty or not, onto a row of the call's own. -/
theorem run_append_ownO {P : Program} (w : World) (base : Nat) (t ty e : TypeId) (i : TypeInfo) (z : Value) (size bytes : Nat) (ht : P.underlying t = some (.slice e)) (hi : P.info? e = some i) (hz : i.zero = some z)
    (hsize : i.size = size) (hby : i.bytes = bytes) (hzs : z.cells.size = size) (hsz : 0 < size)
    (v : Value) (n : Nat) (xs : List Value) (hown : w.ownsRow base e size v n xs)
    (ao : Option Addr) (m c : Nat) (news : List Value) (hl : news.length = m * size) (hnews : m = 0 ∨ ∃ ad : Addr, ao = some ad ∧ ∀ j u, news[j]? = some u → w.cell? (ad.add j) = some u) (h1 : ∀ u ∈ news, u.oneCell' = true)
    (h63 : n + m ≤ maxLen) (hbytes : (n + m) * bytes ≤ 140737488355328) (hbase : base ≤ w.heap.size) :
    ∃ v' w', (Builtin.append_ #[t, t] ty #[v, .slice ao m c]).run P w = .ok v' w' ∧ w'.ownsRow base e size v' (n + m) (xs ++ news) ∧ w.grownBy w' v.ownBlock := by
  by_cases hm : m = 0
  · subst hm
    have hnl : news = [] := List.length_eq_zero_iff.1 (by omega)
    subst hnl
    obtain ⟨a', cap, rfl, hle, _⟩ := owns_gen hown
    refine ⟨_, w, run_append_nothing w t t ty e i ht hi a' n cap hle (.slice ao 0 c) ?_, by simpa using hown, grownBy_refl w _⟩
    cases ao with
    | none => exact Src.ofNil w ht c
    | some a => exact Src.ofSlice w ht a 0 c [] (by simp) (by simp) (by simp)
  · obtain ⟨ad, rfl, hc⟩ := hnews.resolve_left hm
    obtain ⟨v', w', hr, h2, h3, _⟩ := run_append_own_at (P := P) w base t ty e i z size bytes ht hi hz hsize hby hzs hsz v n xs hown ad m c news hl hc h1 h63 hbytes hbase
    exact ⟨v', w', hr, h2, h3⟩

theorem wpList_ownO {P : Program} (w : World) {ops : Array Oper} {rest : List Oper} {o : Oper} {a : Act} {Q : Exit → Act → World → Prop} (hw : Region.wanted o (yielded ops a.tmps) = true) (s x : Operand) (t : TypeId)
    (ho : o.op = .call { callee := .builtin .append, args := #[s, x], argTypes := #[t, t] })
    (base : Nat) (e : TypeId) (i : TypeInfo) (z : Value) (size bytes : Nat) (ht : P.underlying t = some (.slice e)) (hi : P.info? e = some i) (hz : i.zero = some z)
    (hsize : i.size = size) (hby : i.bytes = bytes) (hzs : z.cells.size = size) (hsz : 0 < size)
    (v : Value) (n : Nat) (xs : List Value) (hs : a.eval s = v) (hown : w.ownsRow base e size v n xs)
    (ao : Option Addr) (m c : Nat) (news : List Value) (hx : a.eval x = .slice ao m c) (hl : news.length = m * size) (hnews : m = 0 ∨ ∃ ad : Addr, ao = some ad ∧ ∀ j u, news[j]? = some u → w.cell? (ad.add j) = some u) (h1 : ∀ u ∈ news, u.oneCell' = true)
    (h63 : n + m ≤ maxLen) (hbytes : (n + m) * bytes ≤ 140737488355328) (hbase : base ≤ w.heap.size)
    (h : ∀ v' w', w'.ownsRow base e size v' (n + m) (xs ++ news) → w.grownBy w' v.ownBlock → wpList P ops Q rest (a.put o.dst v') w') :
    wpList P ops Q (o :: rest) a w :=
  wpList_step fun K hK => by
    rw [if_pos hw]
    obtain ⟨v', w', hr, h2, h3⟩ := run_append_ownO (P := P) w base t o.type e i z size bytes ht hi hz hsize hby hzs hsz v n xs hown ao m c news hl hnews h1 h63 hbytes hbase
    unfold Oper.wp execOp
    simp only [ho, resolve, invoke, builtin, Sem.run_bind, Sem.run_pure, Result.andThen_ok, List.map_toArray, List.map_cons, List.map_nil, hs, hx, hr]
    exact hK _ _ (h v' w' h2 h3)

/-- What a list's slice brings to an append. -/
theorem ListAt.news {α : Type} {f : α → List Value} {m : Nat} (hf : Fields f m) {w : World} {v : Value} {l : List α} (h : ListAt f m w v l) : ∃ ao cap, v = .slice ao l.length cap ∧ (l.length = 0 ∨ ∃ ad : Addr, ao = some ad ∧ ∀ j u, (cellsL f l)[j]? = some u → w.cell? (ad.add j) = some u) := by
  obtain ⟨ao, cap, rfl, hcap, hc⟩ := h.shape hf
  refine ⟨ao, cap, rfl, ?_⟩
  by_cases h0 : l.length = 0
  · exact Or.inl h0
  · obtain ⟨b, o, rfl, hb, hcc⟩ := hc (by omega)
    refine Or.inr ⟨_, rfl, fun j u hj => ?_⟩
    rw [Addr.add_lit]
    have hm : 0 < m := hf.pos
    have hj2 : j < l.length * m := by have := (List.getElem?_eq_some_iff.1 hj).1; rw [cellsL_len hf] at this; exact this
    have hd : j / m < l.length := Nat.div_lt_of_lt_mul (by rw [Nat.mul_comm]; exact hj2)
    have hr : j % m < m := Nat.mod_lt _ hm
    have he : j / m * m + j % m = j := by rw [Nat.mul_comm]; exact Nat.div_add_mod j m
    have h2 := hcc (j / m) hd (j % m) hr
    have h3 := cellsL_get hf l (j / m) (j % m) hd hr
    rw [he] at h3
    rw [show o + j = o + j / m * m + j % m by omega, h2, ← h3, hj]

theorem newsOf {α : Type} {f : α → List Value} {m : Nat} (hf : Fields f m) {w : World} {ao : Option Addr} {n c : Nat} {l : List α} (h : ListAt f m w (.slice ao n c) l) : n = 0 ∨ ∃ ad : Addr, ao = some ad ∧ ∀ j u, (cellsL f l)[j]? = some u → w.cell? (ad.add j) = some u := by
  obtain ⟨ao', c', he, hh⟩ := h.news hf
  simp only [Value.slice.injEq] at he
  obtain ⟨rfl, rfl, rfl⟩ := he
  exact hh

end Go.Proofs.Ytblidmkkbcobgaa

/- slices.Clone at a struct of 3 cells: a new row of the same elements. -/
set_option linter.unusedSimpArgs false
set_option linter.unusedVariables false
namespace Go.Proofs.Ytblidmkkbcobgaa
open Go.RowKit Go.Lib Go.Proofs

theorem Try.infoClnHld : (Try.prog.info? 53).map (fun i => (i.zero, i.size, i.bytes)) = some (some (.agg #[.int .i64 0, .int .i64 0, .int .i64 0]), 3, 24) := by kernel_rfl
end Go.Proofs.Ytblidmkkbcobgaa

/- slices.Clone at a struct of 7 cells: a new row of the same elements. -/
set_option linter.unusedSimpArgs false
set_option linter.unusedVariables false
namespace Go.Proofs.Ytblidmkkbcobgaa
open Go.RowKit Go.Lib Go.Proofs

theorem Try.infoClnMv : (Try.prog.info? 104).map (fun i => (i.zero, i.size, i.bytes)) = some (some (.agg #[.int .i64 0, .int .i64 0, .int .i64 0, .int .i64 0, .int .i64 0, .int .i64 0, .int .i64 0]), 7, 56) := by kernel_rfl
set_option maxHeartbeats 2000000 in
theorem cloneMv_any {α : Type} (f : α → List Value) (hf : Fields f 7) (l : List α) (v : Value) (w : World) (h : ListAt f 7 w v l) (hlen : l.length ≤ 1000000) :
    Calls Try.prog 134 #[v] w fun e w' => ∃ v', e = .returned v' ∧ w'.ownsRow w.heap.size 104 7 v' l.length (cellsL f l) ∧ Below w.heap.size w w' := by
  obtain ⟨i0, hi0, hz0, hz1, hz2⟩ := info_parts Try.infoClnMv
  obtain ⟨ao, cap, rfl, hnews⟩ := h.news hf
  have HN := Lib.hid (fun W (hW : Below w.heap.size w W) => newsOf hf (h.below hW))
  have HL := Lib.hid (cellsL_len hf l)
  have HO := Lib.hid (cellsL_one hf l)
  obtain ⟨n, hn⟩ : ∃ n, n = l.length := ⟨_, rfl⟩
  rw [← hn] at hlen HN HL ⊢
  have q22 : ∀ (w : World) (a : Option Addr) (n c n' c' : Nat), (binOp .eql 27 (.slice a n c) (.slice none n' c')).run Try.prog w = .ok (.bool a.isNone) w := fun w a n c n' c' => Lib.run_eql_slice_nil w _ _ a n c n' c' Try.underlying27
  have HLN : Hid (ao = none → l = []) := Lib.hid (fun he => by
    rcases hnews with h0 | ⟨ad, h1, _⟩
    · exact List.length_eq_zero_iff.1 h0
    · rw [he] at h1; cases h1)
  have HN0 : Hid (n = l.length) := Lib.hid hn
  clear hnews h hn
  cases ao with
  | none =>
    obtain rfl := HLN.out rfl
    obtain rfl : n = 0 := HN0.out
    go_enter Try.func134, Try.ntmps134
    go_wp2
    go_ret
    exact ⟨_, rfl, World.ownsRow_nil _ _ _ _, Below.refl _ _⟩
  | some ad =>
    obtain ⟨b, o, el⟩ := ad
    have HB := Lib.hid (below_alloc w (.cells #[] 104))
    go_enter Try.func134, Try.ntmps134
    go_wp2_with (at_builtin; refine wpList_ownO _ rfl _ _ 27 rfl w.heap.size 104 i0 (.agg #[.int .i64 0, .int .i64 0, .int .i64 0, .int .i64 0, .int .i64 0, .int .i64 0, .int .i64 0]) 7 56 Try.underlying27 hi0 hz0 hz1 hz2 rfl (by decide) (.slice (some ⟨w.heap.size, 0, none⟩) 0 0) 0 [] rfl (World.ownsRow_made w #[] 0 (Nat.le_refl _) (Nat.zero_le _) rfl) (some ⟨b, o, el⟩) n cap (cellsL f l) rfl HL.out (HN.out _ HB.out) HO.out (by unfold maxLen; omega) (by omega) (by simp) ?_; intro v' w4 hown4 hgr4)
    have hB : Below w.heap.size w w4 := HB.out.grown hgr4 (by simp) (by intro k hk; simp [Value.ownBlock] at hk; omega)
    have HO4 := Lib.hid hown4
    have HB4 := Lib.hid hB
    clear hown4 hB hgr4
    go_wp2
    go_ret
    refine ⟨_, rfl, ?_, HB4.out⟩
    have := HO4.out
    rwa [Nat.zero_add, List.nil_append] at this

end Go.Proofs.Ytblidmkkbcobgaa

/- slices.Clone at a struct of 7 cells: a new row of the same elements. -/
set_option linter.unusedSimpArgs false
set_option linter.unusedVariables false
namespace Go.Proofs.Ytblidmkkbcobgaa
open Go.RowKit Go.Lib Go.Proofs

theorem Try.infoClnSec : (Try.prog.info? 55).map (fun i => (i.zero, i.size, i.bytes)) = some (some (.agg #[.int .i64 0, .int .i64 0, .int .i64 0, .int .i64 0, .int .i64 0, .int .i64 0, .bool false]), 7, 56) := by kernel_rfl
end Go.Proofs.Ytblidmkkbcobgaa

/- register.copyOf: a register in memory of its own. -/
set_option linter.unusedSimpArgs false
set_option linter.unusedVariables false
namespace Go.Proofs.Ytblidmkkbcobgaa
open Go.RowKit Go.Lib Go.Proofs

/-- A register's copy in its place. -/
structure CpI (w : World) (n0 bR : Nat) (x y z : Value) (nS nH nM : Nat) (kS kH kM : List Value) (W : World) : Prop where
  old : Below w.heap.size w W
  res : W.heap[bR]? = some (.cells #[x, y, z] 29 (0, 0))
  secs : W.ownsRow n0 55 7 x nS kS
  hs : W.ownsRow n0 53 3 y nH kH
  ms : W.ownsRow n0 104 7 z nM kM
theorem owns_put3 {W : World} {base : Nat} {e : TypeId} {size : Nat} {v : Value} {n : Nat} {xs : List Value} (h : W.ownsRow base e size v n xs) {b : Nat} (hb : b < base) (v0 v1 v2 : Value) : (put3 W b v0 v1 v2).ownsRow base e size v n xs := by
  unfold put3
  exact ownsRow_setCell_below (ownsRow_setCell_below (ownsRow_setCell_below h hb _) hb _) hb _

end Go.Proofs.Ytblidmkkbcobgaa

/- A region that draws its order, whose last operations stand in a fixed order behind all others (an append and what follows it): a property for each of the first, invariants for the last; of no function of the program; no condition. -/
namespace Go.Proofs.Ytblidmkkbcobgaa
open Go.RowKit Go.Lib Go.Proofs

def tailOk (ops : Array Oper) (n s : Nat) : Bool := (List.range ops.size).all fun i => decide (i < s) || (List.range i).all fun j => depN ops n i j
def readsOkT (ops : Array Oper) (n s : Nat) (slot : Nat → Nat) (reads : Nat → List Nat) : Bool := (List.range s).all fun j => (List.range s).all fun i => decide (i = j) || !(reads j).contains (slot i) || depN ops n j i

theorem wp_region_tail {P : Program} {ops : Array Oper} {Q : Exit → Act → World → Prop} {id : Nat} {a : Act} {w : World} (ds : List Nat) (slot : Nat → Nat) (reads : Nat → List Nat) (R : Nat → (Nat → Value) → World → Prop) (I : World → Prop) (It : Nat → (Nat → Value) → World → Prop) (s n : Nat) (hs0 : s < ops.size)
    (hm : P.follows .mixedOrders = true) (hb : backwards .any ops = true) (hchk : readsOkT ops n s slot reads = true) (htl : tailOk ops n s = true) (hstart : I w.drew)
    (hreads : ∀ j f q v W, ¬ q ∈ reads j → R j f W → R j (updF f q v) W)
    (hstep : ∀ i, i < s → ∀ f W, I W → (∀ j, depB ops i j = true → R j f W) → wpOp P ops Q i (fun a' w' => I w' ∧ (∀ j, R j f W → R j f w') ∧ ∃ v, slot i ∈ ds ∧ a' = (putsL a ds f).put (some (slot i)) v ∧ R i (updF f (slot i) v) w') (putsL a ds f) W)
    (hfirst : ∀ f W, I W → (∀ j, j < s → R j f W) → It 0 f W)
    (htail : ∀ i, s ≤ i → i < ops.size → ∀ f W, It (i - s) f W → wpOp P ops Q i (fun a' w' => ∃ f', a' = putsL a ds f' ∧ It (i - s + 1) f' w') (putsL a ds f) W)
    (hdone : ∀ f W, It (ops.size - s) f W → Q .normal (putsL a ds f) W) : (Code.region id ops true).wp P Q a w := by
  have hfalse : ∀ k, (Array.replicate ops.size false).getD k false = true → False := fun k h => by
    rw [Array.getD_eq_getD_getElem?] at h
    by_cases h2 : k < ops.size
    · simp [h2] at h
    · simp [h2] at h
  have hT : ∀ i, i < ops.size → s ≤ i → ∀ j, j < i → depN ops n i j = true := fun i hi hsi j hj => by
    have h1 := List.all_eq_true.1 htl i (List.mem_range.2 hi)
    rw [decide_eq_false (by omega), Bool.false_or] at h1
    exact List.all_eq_true.1 h1 j (List.mem_range.2 hj)
  refine wp_region_slots ds (fun listed f W => (listed.getD s false = false → I W ∧ ∀ j, j < s → listed.getD j false = true → R j f W) ∧ ∀ k, s < k → k ≤ ops.size → listed.getD (k - 1) false = true → (k < ops.size → listed.getD k false = false) → It (k - s) f W) hm hb ⟨fun _ => ⟨hstart, fun j _ h => (hfalse j h).elim⟩, fun k _ _ h => (hfalse _ h).elim⟩ ?_ ?_
  · rintro listed f W i hs hc ⟨hI, hI2⟩ hi hun hdep
    have hnl : listed.getD i false = false := by
      rw [Array.getD_eq_getD_getElem?, Array.getElem?_eq_getElem (by omega)] at hun ⊢
      simpa using hun
    have hdeps : ∀ j, depB ops i j = true → listed.getD j false = true := by
      intro j h
      unfold depB at h
      cases ho : ops[i]? with
      | none => rw [ho] at h; cases h
      | some o =>
        rw [ho] at h
        simp only [Option.map_some, Option.getD_some] at h
        rw [Array.any_eq_true'] at h
        obtain ⟨e, he, h2⟩ := h
        simp only [Bool.and_eq_true, decide_eq_true_eq] at h2
        have h3 := hdep o ho e he h2.1
        rw [h2.2] at h3
        exact h3
    have hdepsN : ∀ j, depN ops n i j = true → listed.getD j false = true := by
      intro j h2
      cases n with
      | zero => cases h2
      | succ n =>
        simp only [depN, Bool.or_eq_true] at h2
        rcases h2 with h2 | h2
        · exact hdeps j h2
        · rw [List.any_eq_true] at h2
          obtain ⟨k, _, hk⟩ := h2
          rw [Bool.and_eq_true] at hk
          exact depN_closed hc (hdeps k hk.1) hk.2
    have hlt : ∀ j, listed.getD j false = true → j < ops.size := fun j h => by
      by_cases h2 : j < ops.size
      · exact h2
      · rw [Array.getD_eq_getD_getElem?, Array.getElem?_eq_none (by omega)] at h; cases h
    have hno : ∀ k, s ≤ k → i < k → listed.getD k false = false := fun k hk hik => by
      cases hl : listed.getD k false with
      | false => rfl
      | true =>
        have h3 := depN_closed (n := n) hc hl (hT k (hlt k hl) hk i hik)
        rw [hnl] at h3
        cases h3
    by_cases his : i < s
    · have hls := hno s (Nat.le_refl _) his
      obtain ⟨hIW, hR⟩ := hI hls
      refine wpOp_mono ?_ (hstep i his f W hIW fun j h => ?_)
      · rintro a' w' ⟨h1, hk, v, hsl, rfl, hRi⟩
        refine ⟨updF f (slot i) v, putsL_put _ _ _ _ _ hsl, fun _ => ⟨h1, fun j hj hlj => ?_⟩, fun k hk1 hk2 hlk _ => ?_⟩
        · rw [getD_set (by omega)] at hlj
          by_cases hij : i = j
          · subst hij; exact hRi
          · rw [if_neg hij] at hlj
            refine hreads j f (slot i) v w' (fun hmem => ?_) (hk j (hR j hj hlj))
            have h1 := List.all_eq_true.1 (List.all_eq_true.1 hchk j (List.mem_range.2 hj)) i (List.mem_range.2 his)
            have h2 : (reads j).contains (slot i) = true := List.contains_iff_mem.2 hmem
            rw [h2, decide_eq_false hij] at h1
            have h3 := depN_closed (n := n) hc hlj (by simpa using h1)
            rw [hnl] at h3
            cases h3
        · rw [getD_set (by omega), if_neg (by omega), hno (k - 1) (by omega) (by omega)] at hlk
          cases hlk
      · have hlj := hdeps j h
        by_cases hjs : j < s
        · exact hR j hjs hlj
        · exfalso
          by_cases hjs2 : j = s
          · rw [hjs2, hls] at hlj; cases hlj
          · have := hno j (by omega) (by omega)
            rw [this] at hlj; cases hlj
    · have hall : ∀ j, j < i → listed.getD j false = true := fun j hj => hdepsN j (hT i hi (by omega) j hj)
      have hIt : It (i - s) f W := by
        by_cases his2 : i = s
        · rw [his2, Nat.sub_self]
          rw [his2] at hnl hall
          obtain ⟨hIW, hR⟩ := hI hnl
          exact hfirst f W hIW fun j hj => hR j hj (hall j hj)
        · exact hI2 i (by omega) (by omega) (hall (i - 1) (by omega)) fun _ => hnl
      refine wpOp_mono ?_ (htail i (by omega) hi f W hIt)
      rintro a' w' ⟨f', rfl, h1⟩
      refine ⟨f', rfl, fun h2 => ?_, fun k hk1 hk2 hlk hlk2 => ?_⟩
      · exfalso
        rw [getD_set (by omega)] at h2
        by_cases his2 : i = s
        · rw [if_pos his2] at h2; cases h2
        · rw [if_neg his2, hall s (by omega)] at h2; cases h2
      · have hki : k = i + 1 := by
          rw [getD_set (by omega)] at hlk
          by_cases hk3 : k - 1 = i
          · omega
          · rw [if_neg (fun e => hk3 e.symm)] at hlk
            by_cases hk4 : i < k - 1
            · rw [hno (k - 1) (by omega) hk4] at hlk; cases hlk
            · have h2 := hlk2 (by omega)
              rw [getD_set (by omega)] at h2
              by_cases hk5 : i = k
              · rw [if_pos hk5] at h2; cases h2
              · rw [if_neg hk5, hall k (by omega)] at h2; cases h2
        rw [hki, show i + 1 - s = i - s + 1 by omega]
        exact h1
  · rintro listed f W ⟨hI, hI2⟩ hall
    exact hdone f W (hI2 ops.size hs0 (Nat.le_refl _) (hall _ (by omega)) fun h => absurd h (Nat.lt_irrefl _))

/-- An append onto a row of the call's own, as an operation of a region that draws. -/
theorem wpOp_append {P : Program} {ops : Array Oper} {Q : Exit → Act → World → Prop} {i : Nat} {o : Oper} {a : Act} {w : World} {K : Act → World → Prop} (ho : ops[i]? = some o) (hgd : o.guard = none) (s x : Operand) (t : TypeId)
    (hop : o.op = .call { callee := .builtin .append, args := #[s, x], argTypes := #[t, t] })
    (base : Nat) (e : TypeId) (inf : TypeInfo) (z : Value) (size bytes : Nat) (ht : P.underlying t = some (.slice e)) (hi : P.info? e = some inf) (hz : inf.zero = some z)
    (hsize : inf.size = size) (hby : inf.bytes = bytes) (hzs : z.cells.size = size) (hsz : 0 < size)
    (v : Value) (n : Nat) (xs : List Value) (hs : a.eval s = v) (hown : w.ownsRow base e size v n xs)
    (ad : Addr) (m c : Nat) (news : List Value) (hx : a.eval x = .slice (some ad) m c) (hl : news.length = m * size) (hnews : ∀ j u, news[j]? = some u → w.cell? (ad.add j) = some u) (h1 : ∀ u ∈ news, u.oneCell' = true)
    (h63 : n + m ≤ maxLen) (hbytes : (n + m) * bytes ≤ 140737488355328) (hbase : base ≤ w.heap.size)
    (hK : ∀ v' w', w'.ownsRow base e size v' (n + m) (xs ++ news) → w.grownBy w' v.ownBlock → K (a.put o.dst v') w') : wpOp P ops Q i K a w := by
  obtain ⟨v', w', hr, h2, h3, _⟩ := run_append_own_at (P := P) w base t o.type e inf z size bytes ht hi hz hsize hby hzs hsz v n xs hown ad m c news hl hnews h1 h63 hbytes hbase
  refine wpOp_val ho hgd (v := v') (w' := w') ?_ (hK v' w' h2 h3)
  unfold execOp
  simp only [hop, resolve, invoke, builtin, Sem.run_bind, Sem.run_pure, Result.andThen_ok, List.map_toArray, List.map_cons, List.map_nil, hs, hx, hr]
theorem obj_new_cells {V : World} {g : Nat} {cs : Array Value} {T : TypeId} (h : V.heap[g]? = some (.cells cs T (0, 0))) : ∀ j u, cs.toList[j]? = some u → V.cell? ((⟨g, 0, none⟩ : Addr).add j) = some u := by
  intro j u hu
  rw [show (⟨g, 0, none⟩ : Addr).add j = ⟨g, 0 + j, none⟩ by unfold Addr.add; split <;> simp_all, Nat.zero_add]
  have h2 : V.cell? ⟨g, j, none⟩ = cs[j]? := by simp [World.cell?, h]
  rw [h2]
  simpa using hu

theorem run_fresh_append {P : Program} (w : World) (base : Nat) (t ty e : TypeId) (i : TypeInfo) (z : Value) (size bytes : Nat) (ht : P.underlying t = some (.slice e)) (hi : P.info? e = some i) (hz : i.zero = some z)
    (hsize : i.size = size) (hby : i.bytes = bytes) (hzs : z.cells.size = size) (hsz : 0 < size)
    (ao : Option Addr) (m c : Nat) (news : List Value) (hl : news.length = m * size) (hnews : m = 0 ∨ ∃ ad : Addr, ao = some ad ∧ ∀ j u, news[j]? = some u → w.cell? (ad.add j) = some u) (h1 : ∀ u ∈ news, u.oneCell' = true)
    (h63 : m ≤ maxLen) (hbytes : m * bytes ≤ 140737488355328) (hbase : base ≤ w.heap.size) :
    ∃ v' w', (Builtin.append_ #[t, t] ty #[.slice none 0 0, .slice ao m c]).run P w = .ok v' w' ∧ w'.ownsRow base e size v' m news ∧ w.grownBy w' none := by
  by_cases hm : m = 0
  · subst hm
    have hn : news = [] := List.eq_nil_of_length_eq_zero (by simpa using hl)
    subst hn
    refine ⟨.slice none 0 0, w, ?_, World.ownsRow_nil w base e size, grownBy_refl w none⟩
    cases ao <;> simp [Builtin.append_, run_underlying ht, sizeOf, typeInfo, hi, Builtin.lenOf, Builtin.firstCells, loadCells, loadCellsFrom]
  · obtain ⟨ad, rfl, hc⟩ := hnews.resolve_left hm
    obtain ⟨v', w', hr, h2, h3, _⟩ := run_append_own_at (P := P) w base t ty e i z size bytes ht hi hz hsize hby hzs hsz (.slice none 0 0) 0 [] (World.ownsRow_nil _ _ _ _) ad m c news hl hc h1 (by omega) (by simpa using hbytes) hbase
    rw [Nat.zero_add, List.nil_append] at h2
    exact ⟨v', w', hr, h2, h3⟩

theorem wpOp_fresh {P : Program} {ops : Array Oper} {Q : Exit → Act → World → Prop} {i : Nat} {o : Oper} {a : Act} {w : World} {K : Act → World → Prop} (ho : ops[i]? = some o) (hgd : o.guard = none) (s x : Operand) (t : TypeId)
    (hop : o.op = .call { callee := .builtin .append, args := #[s, x], argTypes := #[t, t] })
    (base : Nat) (e : TypeId) (inf : TypeInfo) (z : Value) (size bytes : Nat) (ht : P.underlying t = some (.slice e)) (hi : P.info? e = some inf) (hz : inf.zero = some z)
    (hsize : inf.size = size) (hby : inf.bytes = bytes) (hzs : z.cells.size = size) (hsz : 0 < size)
    (hs : a.eval s = .slice none 0 0) (ao : Option Addr) (m c : Nat) (news : List Value) (hx : a.eval x = .slice ao m c) (hl : news.length = m * size)
    (hnews : m = 0 ∨ ∃ ad : Addr, ao = some ad ∧ ∀ j u, news[j]? = some u → w.cell? (ad.add j) = some u) (h1 : ∀ u ∈ news, u.oneCell' = true)
    (h63 : m ≤ maxLen) (hbytes : m * bytes ≤ 140737488355328) (hbase : base ≤ w.heap.size)
    (hK : ∀ v' w', w'.ownsRow base e size v' m news → w.grownBy w' none → K (a.put o.dst v') w') : wpOp P ops Q i K a w := by
  obtain ⟨v', w', hr, h2, h3⟩ := run_fresh_append (P := P) w base t o.type e inf z size bytes ht hi hz hsize hby hzs hsz ao m c news hl hnews h1 h63 hbytes hbase
  refine wpOp_val ho hgd (v := v') (w' := w') ?_ (hK v' w' h2 h3)
  unfold execOp
  simp only [hop, resolve, invoke, builtin, Sem.run_bind, Sem.run_pure, Result.andThen_ok, List.map_toArray, List.map_cons, List.map_nil, hs, hx, hr]

end Go.Proofs.Ytblidmkkbcobgaa

/- A region that draws its order, two of whose operations change the world, each once, and whose last operations stand in a fixed order behind all others; of no function; no condition. -/
namespace Go.Proofs.Ytblidmkkbcobgaa
open Go.RowKit Go.Lib Go.Proofs

theorem wp_region_tail2 {P : Program} {ops : Array Oper} {Q : Exit → Act → World → Prop} {id : Nat} {a : Act} {w : World} (ds : List Nat) (slot : Nat → Nat) (reads : Nat → List Nat) (R : Nat → (Nat → Value) → World → Prop) (I : Bool → Bool → World → Prop) (e1 e2 : Nat) (It : Nat → (Nat → Value) → World → Prop) (s n : Nat) (hs0 : s < ops.size) (he1 : e1 < s) (he2 : e2 < s)
    (hm : P.follows .mixedOrders = true) (hb : backwards .any ops = true) (hchk : readsOkT ops n s slot reads = true) (htl : tailOk ops n s = true) (hstart : I false false w.drew)
    (hreads : ∀ j f q v W, ¬ q ∈ reads j → R j f W → R j (updF f q v) W)
    (hstep : ∀ i, i < s → ∀ f W b c, I b c W → (i = e1 → b = false) → (i = e2 → c = false) → (∀ j, depB ops i j = true → R j f W) → wpOp P ops Q i (fun a' w' => I (b || decide (i = e1)) (c || decide (i = e2)) w' ∧ (∀ j, j ≠ i → R j f W → R j f w') ∧ ∃ v, slot i ∈ ds ∧ a' = (putsL a ds f).put (some (slot i)) v ∧ R i (updF f (slot i) v) w') (putsL a ds f) W)
    (hfirst : ∀ f W, I true true W → (∀ j, j < s → R j f W) → It 0 f W)
    (htail : ∀ i, s ≤ i → i < ops.size → ∀ f W, It (i - s) f W → wpOp P ops Q i (fun a' w' => ∃ f', a' = putsL a ds f' ∧ It (i - s + 1) f' w') (putsL a ds f) W)
    (hdone : ∀ f W, It (ops.size - s) f W → Q .normal (putsL a ds f) W) : (Code.region id ops true).wp P Q a w := by
  have hfalse : ∀ k, (Array.replicate ops.size false).getD k false = true → False := fun k h => by
    rw [Array.getD_eq_getD_getElem?] at h
    by_cases h2 : k < ops.size
    · simp [h2] at h
    · simp [h2] at h
  have hfalse2 : ∀ k, (Array.replicate ops.size false).getD k false = false := fun k => by
    cases h : (Array.replicate ops.size false).getD k false with
    | false => rfl
    | true => exact (hfalse k h).elim
  have hT : ∀ i, i < ops.size → s ≤ i → ∀ j, j < i → depN ops n i j = true := fun i hi hsi j hj => by
    have h1 := List.all_eq_true.1 htl i (List.mem_range.2 hi)
    rw [decide_eq_false (by omega), Bool.false_or] at h1
    exact List.all_eq_true.1 h1 j (List.mem_range.2 hj)
  refine wp_region_slots ds (fun listed f W => (listed.getD s false = false → I (listed.getD e1 false) (listed.getD e2 false) W ∧ ∀ j, j < s → listed.getD j false = true → R j f W) ∧ ∀ k, s < k → k ≤ ops.size → listed.getD (k - 1) false = true → (k < ops.size → listed.getD k false = false) → It (k - s) f W) hm hb ⟨fun _ => ⟨by rw [hfalse2, hfalse2]; exact hstart, fun j _ h => (hfalse j h).elim⟩, fun k _ _ h => (hfalse _ h).elim⟩ ?_ ?_
  · rintro listed f W i hs hc ⟨hI, hI2⟩ hi hun hdep
    have hnl : listed.getD i false = false := by
      rw [Array.getD_eq_getD_getElem?, Array.getElem?_eq_getElem (by omega)] at hun ⊢
      simpa using hun
    have hdeps : ∀ j, depB ops i j = true → listed.getD j false = true := by
      intro j h
      unfold depB at h
      cases ho : ops[i]? with
      | none => rw [ho] at h; cases h
      | some o =>
        rw [ho] at h
        simp only [Option.map_some, Option.getD_some] at h
        rw [Array.any_eq_true'] at h
        obtain ⟨e, he, h2⟩ := h
        simp only [Bool.and_eq_true, decide_eq_true_eq] at h2
        have h3 := hdep o ho e he h2.1
        rw [h2.2] at h3
        exact h3
    have hdepsN : ∀ j, depN ops n i j = true → listed.getD j false = true := by
      intro j h2
      cases n with
      | zero => cases h2
      | succ n =>
        simp only [depN, Bool.or_eq_true] at h2
        rcases h2 with h2 | h2
        · exact hdeps j h2
        · rw [List.any_eq_true] at h2
          obtain ⟨k, _, hk⟩ := h2
          rw [Bool.and_eq_true] at hk
          exact depN_closed hc (hdeps k hk.1) hk.2
    have hlt : ∀ j, listed.getD j false = true → j < ops.size := fun j h => by
      by_cases h2 : j < ops.size
      · exact h2
      · rw [Array.getD_eq_getD_getElem?, Array.getElem?_eq_none (by omega)] at h; cases h
    have hno : ∀ k, s ≤ k → i < k → listed.getD k false = false := fun k hk hik => by
      cases hl : listed.getD k false with
      | false => rfl
      | true =>
        have h3 := depN_closed (n := n) hc hl (hT k (hlt k hl) hk i hik)
        rw [hnl] at h3
        cases h3
    by_cases his : i < s
    · have hls := hno s (Nat.le_refl _) his
      obtain ⟨hIW, hR⟩ := hI hls
      have hb2 : ∀ k, k < s → (listed.setIfInBounds i true).getD k false = (listed.getD k false || decide (i = k)) := fun k hk => by
        rw [getD_set (by omega)]
        by_cases e : i = k
        · rw [if_pos e, decide_eq_true e, Bool.or_true]
        · rw [if_neg e, decide_eq_false e, Bool.or_false]
      refine wpOp_mono ?_ (hstep i his f W _ _ hIW (fun e => by rw [← e]; exact hnl) (fun e => by rw [← e]; exact hnl) fun j h => ?_)
      · rintro a' w' ⟨h1, hk, v, hsl, rfl, hRi⟩
        refine ⟨updF f (slot i) v, putsL_put _ _ _ _ _ hsl, fun _ => ⟨by rw [hb2 e1 he1, hb2 e2 he2]; exact h1, fun j hj hlj => ?_⟩, fun k hk1 hk2 hlk _ => ?_⟩
        · rw [getD_set (by omega)] at hlj
          by_cases hij : i = j
          · subst hij; exact hRi
          · rw [if_neg hij] at hlj
            refine hreads j f (slot i) v w' (fun hmem => ?_) (hk j (fun e => hij e.symm) (hR j hj hlj))
            have h1 := List.all_eq_true.1 (List.all_eq_true.1 hchk j (List.mem_range.2 hj)) i (List.mem_range.2 his)
            have h2 : (reads j).contains (slot i) = true := List.contains_iff_mem.2 hmem
            rw [h2, decide_eq_false hij] at h1
            have h3 := depN_closed (n := n) hc hlj (by simpa using h1)
            rw [hnl] at h3
            cases h3
        · rw [getD_set (by omega), if_neg (by omega), hno (k - 1) (by omega) (by omega)] at hlk
          cases hlk
      · have hlj := hdeps j h
        by_cases hjs : j < s
        · exact hR j hjs hlj
        · exfalso
          by_cases hjs2 : j = s
          · rw [hjs2, hls] at hlj; cases hlj
          · have := hno j (by omega) (by omega)
            rw [this] at hlj; cases hlj
    · have hall : ∀ j, j < i → listed.getD j false = true := fun j hj => hdepsN j (hT i hi (by omega) j hj)
      have hIt : It (i - s) f W := by
        by_cases his2 : i = s
        · rw [his2, Nat.sub_self]
          rw [his2] at hnl hall
          obtain ⟨hIW, hR⟩ := hI hnl
          rw [hall e1 (by omega), hall e2 (by omega)] at hIW
          exact hfirst f W hIW fun j hj => hR j hj (hall j hj)
        · exact hI2 i (by omega) (by omega) (hall (i - 1) (by omega)) fun _ => hnl
      refine wpOp_mono ?_ (htail i (by omega) hi f W hIt)
      rintro a' w' ⟨f', rfl, h1⟩
      refine ⟨f', rfl, fun h2 => ?_, fun k hk1 hk2 hlk hlk2 => ?_⟩
      · exfalso
        rw [getD_set (by omega)] at h2
        by_cases his2 : i = s
        · rw [if_pos his2] at h2; cases h2
        · rw [if_neg his2, hall s (by omega)] at h2; cases h2
      · have hki : k = i + 1 := by
          rw [getD_set (by omega)] at hlk
          by_cases hk3 : k - 1 = i
          · omega
          · rw [if_neg (fun e => hk3 e.symm)] at hlk
            by_cases hk4 : i < k - 1
            · rw [hno (k - 1) (by omega) hk4] at hlk; cases hlk
            · have h2 := hlk2 (by omega)
              rw [getD_set (by omega)] at h2
              by_cases hk5 : i = k
              · rw [if_pos hk5] at h2; cases h2
              · rw [if_neg hk5, hall k (by omega)] at h2; cases h2
        rw [hki, show i + 1 - s = i - s + 1 by omega]
        exact h1
  · rintro listed f W ⟨hI, hI2⟩ hall
    exact hdone f W (hI2 ops.size hs0 (Nat.le_refl _) (hall _ (by omega)) fun h => absurd h (Nat.lt_irrefl _))

end Go.Proofs.Ytblidmkkbcobgaa

/- register.add: a move more, where the securities are right. -/
set_option linter.unusedSimpArgs false
set_option linter.unusedVariables false
namespace Go.Proofs.Ytblidmkkbcobgaa
open Go.RowKit Go.Lib Go.Proofs

/-- The move as it is added. -/
def numM (r : Reg) (m : Mv) : Mv := { m with num := (r.ms.length : Int) + 1 }
def addE (r : Reg) (m : Mv) : Int := if checkR r ≠ 0 then checkR r else if r.ms.length = 400 then 3 else faultM r.secs r.hs (lastM Mv.zero r.ms).day (numM r m)
def Reg.none : Reg := ⟨[], [], []⟩
def addV (r : Reg) (m : Mv) : Reg := if addE r m = 0 then addM r (numM r m) else Reg.none
theorem none_at (w : World) : RegAt w (.slice none 0 0) (.slice none 0 0) (.slice none 0 0) Reg.none := ⟨nil_listAt _ _ _ _ _, nil_listAt _ _ _ _ _, nil_listAt _ _ _ _ _⟩
/-- Rows of different elements lie apart. -/
theorem owns_apart {W W' : World} {base base2 : Nat} {e e2 : TypeId} {k k2 n m : Nat} {v u : Value} {xs ys : List Value} (h : W.ownsRow base e k v n xs) (h2 : W.ownsRow base2 e2 k2 u m ys) (hne : e ≠ e2) (hg : W.grownBy W' u.ownBlock) : W'.ownsRow base e k v n xs := by
  refine h.kept hg ?_
  rcases h.2 with ⟨rfl, _⟩ | ⟨g, c, cur, rfl, _, hh, _⟩
  · exact Or.inl rfl
  · refine Or.inr fun he => hne ?_
    rcases h2.2 with ⟨rfl, _⟩ | ⟨g2, c2, cur2, rfl, _, hh2, _⟩
    · simp [Value.ownBlock] at he
    · simp only [Value.ownBlock, Option.some.injEq] at he
      subst he
      rw [hh] at hh2
      simp only [Option.some.injEq, Obj.cells.injEq] at hh2
      exact hh2.2.1
theorem obj_apart {W W' : World} {base2 : Nat} {e e2 : TypeId} {k2 m b : Nat} {u : Value} {ys : List Value} {cs : Array Value} (h : W.heap[b]? = some (.cells cs e (0, 0))) (h2 : W.ownsRow base2 e2 k2 u m ys) (hne : e ≠ e2) (hg : W.grownBy W' u.ownBlock) : W'.heap[b]? = some (.cells cs e (0, 0)) := by
  refine (hg.block b (obj_lt h) fun he => hne ?_).trans h
  rcases h2.2 with ⟨rfl, _⟩ | ⟨g2, c2, cur2, rfl, _, hh2, _⟩
  · simp [Value.ownBlock] at he
  · simp only [Value.ownBlock, Option.some.injEq] at he
    subst he
    rw [h] at hh2
    simp only [Option.some.injEq, Obj.cells.injEq] at hh2
    exact hh2.2.1

end Go.Proofs.Ytblidmkkbcobgaa

/- register.Transfer, Issue, Redeem. -/
set_option linter.unusedSimpArgs false
set_option linter.unusedVariables false
namespace Go.Proofs.Ytblidmkkbcobgaa
open Go.RowKit Go.Lib Go.Proofs

/-- A list of structs that begin with a number stands through a store into a register's place. -/
theorem ListAt.keepR {α : Type} {f : α → List Value} {m : Nat} (hf : Fields f m) (hi : ∀ x, ∃ i, (f x)[0]? = some (.int .i64 i)) {w w' : World} {v : Value} {l : List α} (h : ListAt f m w v l) {b : Nat} {a0 a1 a2 : Option Addr} {n0 n1 n2 c0 c1 c2 : Nat} {T : TypeId}
    (hb : w.heap[b]? = some (.cells #[.slice a0 n0 c0, .slice a1 n1 c1, .slice a2 n2 c2] T (0, 0))) (hg : w.grownBy w' (some b)) : ListAt f m w' v l := by
  obtain ⟨h1, ao, cap, rfl, hc, h3⟩ := h
  refine ⟨h1, ao, cap, rfl, hc, ?_⟩
  by_cases h0 : l.length = 0
  · exact Or.inl h0
  · rcases h3 with h3 | ⟨g, o, rfl, hlt, hcell⟩
    · exact absurd h3 h0
    · refine Or.inr ⟨g, o, rfl, Nat.lt_of_lt_of_le hlt hg.size, fun j hj => ?_⟩
      refine (World.cell?_of_block (hg.block g hlt fun e => ?_)).trans (hcell j hj)
      injection e with e
      subst e
      have hm := hf.pos
      have h5 := hcell 0 (Nat.mul_pos (by omega) hm)
      have h6 := cellsL_get hf l 0 0 (by omega) hm
      obtain ⟨i, h7⟩ := hi l[0]
      rw [Nat.zero_mul, Nat.zero_add, h7] at h6
      rw [h6, Nat.add_zero, obj_cell hb] at h5
      match o, h5 with
      | 0, h5 => simp at h5
      | 1, h5 => simp at h5
      | 2, h5 => simp at h5
      | o + 3, h5 => simp at h5
theorem RegAt.keepR {w w' : World} {x y z : Value} {r : Reg} (h : RegAt w x y z r) {b : Nat} {a0 a1 a2 : Option Addr} {n0 n1 n2 c0 c1 c2 : Nat} {T : TypeId}
    (hb : w.heap[b]? = some (.cells #[.slice a0 n0 c0, .slice a1 n1 c1, .slice a2 n2 c2] T (0, 0))) (hg : w.grownBy w' (some b)) : RegAt w' x y z r :=
  ⟨h.secs.keepR secF (fun s => ⟨s.id, rfl⟩) hb hg, h.hs.keepR hldF (fun s => ⟨s.sec, rfl⟩) hb hg, h.ms.keepR mvF (fun s => ⟨s.num, rfl⟩) hb hg⟩

end Go.Proofs.Ytblidmkkbcobgaa
