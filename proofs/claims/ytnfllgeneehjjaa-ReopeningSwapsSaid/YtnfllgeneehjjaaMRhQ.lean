/- register.add: a move more, where the securities are right. -/
import Derived.Test.YtnfllgeneehjjaaMRhP
import Derived.Test.YtnfllgeneehjjaaMRegW
set_option linter.unusedSimpArgs false
set_option linter.unusedVariables false
set_option linter.unusedSimpArgs false
set_option linter.unusedVariables false
namespace Go.Proofs.Ytnfllgeneehjjaa
open Go.RowKit Go.Lib Go.Proofs

/-- The move as it is added. -/
def numM (r : Reg) (m : Mv) : Mv := { m with num := (r.ms.length : Int) + 1 }
def addE (r : Reg) (m : Mv) : Int := if checkR r ≠ 0 then checkR r else if r.ms.length = 400 then 3 else faultM r.secs r.hs (lastM Mv.zero r.ms).day (numM r m)
def Reg.none : Reg := ⟨[], [], []⟩
def addV (r : Reg) (m : Mv) : Reg := if addE r m = 0 then addM r (numM r m) else Reg.none
theorem none_at (w : World) : RegAt w (.slice none 0 0) (.slice none 0 0) (.slice none 0 0) Reg.none := ⟨nil_listAt _ _ _ _ _, nil_listAt _ _ _ _ _, nil_listAt _ _ _ _ _⟩
/-- Rows of different elements lie apart. -/
theorem owns_apart {W W' : World} {base base2 : Nat} {e e2 : TypeId} {k k2 n m : Nat} {v u : Value} {xs ys : List Value} (h : W.ownsRow base e k v n xs) (h2 : W.ownsRow base2 e2 k2 u m ys) (hne : e ≠ e2) (hg : W.grownBy W' u.ownBlock) : W'.ownsRow base e k v n xs := by
  refine h.kept hg ?_
  rcases h.2 with ⟨rfl, _⟩ | ⟨g, c, cur, rfl, _, hh, _⟩
  · exact Or.inl rfl
  · refine Or.inr fun he => hne ?_
    rcases h2.2 with ⟨rfl, _⟩ | ⟨g2, c2, cur2, rfl, _, hh2, _⟩
    · simp [Value.ownBlock] at he
    · simp only [Value.ownBlock, Option.some.injEq] at he
      subst he
      rw [hh] at hh2
      simp only [Option.some.injEq, Obj.cells.injEq] at hh2
      exact hh2.2.1
theorem obj_apart {W W' : World} {base2 : Nat} {e e2 : TypeId} {k2 m b : Nat} {u : Value} {ys : List Value} {cs : Array Value} (h : W.heap[b]? = some (.cells cs e (0, 0))) (h2 : W.ownsRow base2 e2 k2 u m ys) (hne : e ≠ e2) (hg : W.grownBy W' u.ownBlock) : W'.heap[b]? = some (.cells cs e (0, 0)) := by
  refine (hg.block b (obj_lt h) fun he => hne ?_).trans h
  rcases h2.2 with ⟨rfl, _⟩ | ⟨g2, c2, cur2, rfl, _, hh2, _⟩
  · simp [Value.ownBlock] at he
  · simp only [Value.ownBlock, Option.some.injEq] at he
    subst he
    rw [h] at hh2
    simp only [Option.some.injEq, Obj.cells.injEq] at hh2
    exact hh2.2.1

set_option maxRecDepth 100000 in
set_option maxHeartbeats 32000000 in
theorem rxadd_any (r : Reg) (m : Mv) (x y z : Value) (w : World) (h : RegS r) (hr : RegAt w x y z r) :
    Calls Try.prog 59 #[.agg #[x, y, z], .agg (mvC m).toArray] w fun e w' => ∃ x' y' z', e = .returned (.tuple #[.agg #[x', y', z'], .int .i64 (addE r m)]) ∧ RegAt w' x' y' z' (addV r m) ∧ Below w.heap.size w w' := by
  obtain ⟨aM, cM, hze, hcM, hmc⟩ := hr.ms.shape mvF
  subst hze
  obtain ⟨nM, hnM⟩ : ∃ n, n = r.ms.length := ⟨_, rfl⟩
  have hml := h.ml
  have hmc2 : 0 < nM → ∃ b o, aM = some ⟨b, o, none⟩ ∧ b < w.heap.size ∧ ∀ j, j < 7 → w.cell? ⟨b, o + (nM - 1) * 7 + j, none⟩ = (mvC (lastM Mv.zero r.ms))[j]? := fun hp => by
    obtain ⟨b, o, h1, h2, h3⟩ := hmc (by omega)
    refine ⟨b, o, h1, h2, fun j hj => ?_⟩
    have hl : r.ms = r.ms.take (nM - 1) ++ [r.ms[nM - 1]] := by
      rw [← List.take_succ_eq_append_getElem (by omega), show nM - 1 + 1 = r.ms.length by omega, List.take_length]
    rw [h3 (nM - 1) (by omega) j hj]
    have he : lastM Mv.zero r.ms = r.ms[nM - 1] := by
      conv => lhs; rw [hl]
      exact lastM_snoc _ _ _
    rw [he]
  have hl0 : nM = 0 → lastM Mv.zero r.ms = Mv.zero := fun h0 => by
    have : r.ms = [] := List.length_eq_zero_iff.1 (by omega)
    rw [this]; rfl
  rw [← hnM] at hcM hml ⊢
  have HCK := Lib.hid (fun W (hW : Below w.heap.size w W) => rxCheck_any r x y (.slice aM nM cM) W h (by rw [hnM]; exact hr.below hW))
  have hnum : checkR r = 0 → (lastM Mv.zero r.ms).num = (nM : Int) := fun hc => by
    have h1 := (checkR_zero h hc).runM.num
    rw [h1, hnM]; simp [Mv.zero]
  have HFA : Hid (checkR r = 0 → ∀ W, Below w.heap.size w W → Calls Try.prog 86 #[.agg #[x, y, .slice aM nM cM], y, .agg (mvC (lastM Mv.zero r.ms)).toArray, .agg (mvC (numM r m)).toArray] W fun e w' => e = .returned (.int .i64 (faultM r.secs r.hs (lastM Mv.zero r.ms).day (numM r m))) ∧ Below W.heap.size W w') := Lib.hid fun hc W hW =>
    rxfault_any r.secs r.hs (lastM Mv.zero r.ms) (numM r m) x y _ y W (hr.secs.below hW) (by have := h.secs.len; omega) (fun s hs => ((h.secs.ok s hs).unit).1) (hr.hs.below hW) h.hl ((checkR_zero h hc).runM.inv.ok.ok)
  have HCP := Lib.hid (fun W (hW : Below w.heap.size w W) => rxcopy_any r x y (.slice aM nM cM) W (by rw [hnM]; exact hr.below hW) (by have := h.secs.len; omega) h.hl (by omega))
  have HCA : Hid (checkR r = 0 → faultM r.secs r.hs (lastM Mv.zero r.ms).day (numM r m) = 0 → ∀ base W v, base ≤ W.heap.size → W.ownsRow base 51 3 v r.hs.length (cellsL hldC r.hs) → Calls Try.prog 63 #[v, .agg (mvC (numM r m)).toArray] W fun e w' => ∃ v', e = .returned v' ∧ RowTo base 51 3 W v w' v' (carryM r.hs (numM r m)).length (cellsL hldC (carryM r.hs (numM r m)))) := Lib.hid fun hc hf base W v hW ho => by
    have hok := checkR_zero h hc
    obtain ⟨s, hm⟩ := fault_zero (fun s hs' => (h.secs.bound s hs').2.2) hf
    have hi := hok.runM.inv
    have hll := hok.hsLen
    refine rxcarry_any base v r.hs (numM r m) W hi.ok (fun hk => ?_) (by omega) hm.amt hW ho
    have hid : 1 ≤ (numM r m).sec ∧ (numM r m).sec ≤ 1000 := by
      have h1 := findS_id hm.sec
      have h2 := h.secs.bound s h1.2
      omega
    have hh := hm.has hk
    have ho := hi.out (numM r m).sec
    have ha := hm.amt
    exact setM_ok hi.ok hid (hm.frm hk) (by omega) (by omega)
  obtain ⟨W1, hW1⟩ : ∃ W1, W1 = ((w.alloc (.cells #[x, y, .slice aM nM cM] 29)).alloc (.cells (mvC m).toArray 36)).alloc (.cells #[.slice none 0 0, .slice none 0 0, .slice none 0 0] 29) := ⟨_, rfl⟩
  have HB1 : Hid (Below w.heap.size w W1) := Lib.hid (by rw [hW1]; exact below3 w _ _ _)
  have HA1 : Hid (W1.heap[w.heap.size]? = some (.cells #[x, y, .slice aM nM cM] 29 (0, 0))) := Lib.hid (by rw [hW1]; exact alloc3_at0 w _ _ _)
  have HM1 : Hid (W1.heap[w.heap.size + 1]? = some (.cells (mvC m).toArray 36 (0, 0))) := Lib.hid (by rw [hW1]; exact alloc3_at1 w _ _ _)
  have HO1 : Hid (W1.heap[w.heap.size + 2]? = some (.cells #[.slice none 0 0, .slice none 0 0, .slice none 0 0] 29 (0, 0))) := Lib.hid (by rw [hW1]; exact alloc3_at w _ _ _)
  obtain ⟨ec, hec⟩ : ∃ ec, ec = checkR r := ⟨_, rfl⟩
  obtain ⟨res, hres⟩ : ∃ res, res = addE r m := ⟨_, rfl⟩
  obtain ⟨vr, hvr⟩ : ∃ vr, vr = addV r m := ⟨_, rfl⟩
  have HVN : Hid (res ≠ 0 → vr = Reg.none) := Lib.hid fun h0 => by rw [hvr]; unfold addV; rw [← hres]; exact if_neg h0
  have HVA : Hid (res = 0 → vr = addM r (numM r m)) := Lib.hid fun h0 => by rw [hvr]; unfold addV; rw [← hres]; exact if_pos h0
  rw [← hec] at HCK HFA HCA hnum
  have HRES : Hid (res = if ec ≠ 0 then ec else if nM = 400 then 3 else faultM r.secs r.hs (lastM Mv.zero r.ms).day (numM r m)) := Lib.hid (by rw [hres, hec, hnM]; rfl)
  rw [← hres, ← hvr]
  have HNM := Lib.hid hnM
  obtain ⟨f, hf⟩ : ∃ f, f = faultM r.secs r.hs (lastM Mv.zero r.ms).day (numM r m) := ⟨_, rfl⟩
  rw [← hf] at HFA HCA HRES
  have hnu : (numM r m).num = (nM : Int) + 1 := by rw [hnM]; rfl
  obtain ⟨m0, m1, m2, m3, m4, m5, m6⟩ := m
  have hnm : numM r ⟨m0, m1, m2, m3, m4, m5, m6⟩ = ⟨(nM : Int) + 1, m1, m2, m3, m4, m5, m6⟩ := by unfold numM; rw [hnM]
  have HNU := Lib.hid hnm
  rw [hnm] at HFA HCA
  simp only [mvC] at HFA HCA HM1 hW1 ⊢
  clear hmc hr h hec hres hvr hnM hf hnu hnm
  obtain ⟨lm, hl⟩ : ∃ lm, lm = lastM Mv.zero r.ms := ⟨_, rfl⟩
  rw [← hl] at HFA hnum hmc2 hl0
  have HLM := Lib.hid hl
  clear hl
  obtain ⟨l0, l1, l2, l3, l4, l5, l6⟩ := lm
  simp only [mvC] at HFA hmc2
  simp only at hnum
  have hA1 := HA1.out
  have a0 := obj_cell hA1 0
  have a1 := obj_cell hA1 1
  have a2 := obj_cell hA1 2
  simp at a0 a1 a2
  clear hA1
  go_enter Try.func59, Try.ntmps59
  go_upto_region 1 with fail
  rw [← hW1]
  clear hW1
  go_wp2_with fail
  refine Calls.mono (HCK.out _ HB1.out) ?_
  rintro e x7 ⟨rfl, b7⟩
  have HB7 : Hid (Below w.heap.size w x7) := Lib.hid (HB1.out.trans (b7.mono HB1.out.size))
  have HA7 := Lib.hid (obj_below HA1.out b7)
  have HM7 := Lib.hid (obj_below HM1.out b7)
  have HO7 := Lib.hid (obj_below HO1.out b7)
  clear a0 a1 a2 b7 HA1 HM1 HO1 HB1 HCK
  have hA7 := HA7.out
  have hO7 := HO7.out
  have a0 := obj_cell hA7 0
  have a1 := obj_cell hA7 1
  have a2 := obj_cell hA7 2
  have o0 := obj_cell hO7 0
  have o1 := obj_cell hO7 1
  have o2 := obj_cell hO7 2
  have f0 := obj_free hO7 0
  have f1 := obj_free hO7 1
  have f2 := obj_free hO7 2
  simp at a0 a1 a2 o0 o1 o2
  clear hA7 hO7
  by_cases hc0 : ec = 0
  · subst hc0
    rw [if_neg (fun h => h rfl)] at HRES
    have hl00 := hnum rfl
    subst hl00
    by_cases hn4 : nM = 400
    · obtain rfl : res = 3 := by rw [HRES.out]; exact if_pos hn4
      obtain rfl := HVN.out (by decide)
      subst hn4
      go_wp2
      refine ret3 HO7.out rfl _ _ _ (fun F hF => ?_) rfl ⟨_, _, _, rfl, none_at _, put3_below HB7.out (by omega) _ _ _⟩
      have q0 := obj_cell hF 0
      have q1 := obj_cell hF 1
      have q2 := obj_cell hF 2
      simp [results, Try.results59, go_sem, q0, q1, q2]
    · rw [if_neg hn4] at HRES
      have hn4i : ¬ ((nM : Int) = 400) := by omega
      have hn4b : ((nM : Int) == 400) = false := beq_eq_false_iff_ne.2 hn4i
      obtain ⟨W8, hW8⟩ : ∃ W8, W8 = x7.alloc (.cells #[.int .i64 0, .int .i64 0, .int .i64 0, .int .i64 0, .int .i64 0, .int .i64 0, .int .i64 0] 36) := ⟨_, rfl⟩
      have hb8 : Below x7.heap.size x7 W8 := by rw [hW8]; exact below_alloc x7 _
      obtain ⟨bP, hbP⟩ : ∃ b, b = x7.heap.size := ⟨_, rfl⟩
      have HP8 : Hid (W8.heap[bP]? = some (.cells #[.int .i64 0, .int .i64 0, .int .i64 0, .int .i64 0, .int .i64 0, .int .i64 0, .int .i64 0] 36 (0, 0))) := Lib.hid (by rw [hW8, hbP]; exact heap_alloc_new x7 _)
      have HB8 : Hid (Below w.heap.size w W8) := Lib.hid (HB7.out.trans (hb8.mono HB7.out.size))
      have HA8 := Lib.hid (obj_below HA7.out hb8)
      have HM8 := Lib.hid (obj_below HM7.out hb8)
      have HO8 := Lib.hid (obj_below HO7.out hb8)
      have HPL : Hid (w.heap.size + 2 < bP) := Lib.hid (by rw [hbP]; exact obj_lt HO7.out)
      go_upto_region 7 with fail
      rw [← hW8, ← hbP]
      clear hW8 hbP a0 a1 a2 o0 o1 o2 f0 f1 f2 hb8 HA7 HM7 HO7 HB7
      have hA8 := HA8.out
      have a2 := obj_cell hA8 2
      simp at a2
      clear hA8
      go_upto_region 8 with fail
      go_cut [26] (fun c wx => c = .bool (decide (0 < nM)) ∧ wx = W8)
      case first =>
        go_wp2
        go_meet
        exact ⟨by first | rfl | simp, rfl⟩
      obtain ⟨rfl, rfl⟩ := hcut
      obtain ⟨q, hq⟩ : ∃ q, q = decide (0 < nM) := ⟨_, rfl⟩
      have HQ : Hid (q = true ↔ 0 < nM) := Lib.hid (by rw [hq]; exact decide_eq_true_iff)
      rw [← hq]
      clear hq
      cases q with
      | false =>
          have hn0 : nM = 0 := by
            have h := HQ.out
            by_cases e : 0 < nM
            · exact absurd (h.2 e) (by decide)
            · omega
          have hz := hl0 hn0
          have HZ : Hid (#[.int .i64 0, .int .i64 0, .int .i64 0, .int .i64 0, .int .i64 0, .int .i64 0, .int .i64 0] = (#[.int .i64 (nM : Int), .int .i64 l1, .int .i64 l2, .int .i64 l3, .int .i64 l4, .int .i64 l5, .int .i64 l6] : Array Value)) := Lib.hid (by
            simp only [Mv.zero, Mv.mk.injEq] at hz
            obtain ⟨z0, z1, z2, z3, z4, z5, z6⟩ := hz
            rw [z1, z2, z3, z4, z5, z6, z0])
          clear hz hmc2 hl0 hn0
          have HB9 := HB8
          have HA9 := HA8
          have HM9 := HM8
          have HO9 := HO8
          have HP9 := Lib.hid HP8.out
          rw [HZ.out] at HP9
          go_upto_region 10 with fail
          generalize wc = wd at *
          clear HB8 HA8 HM8 HO8 HP8
          have hM9 := HM9.out
          have hP9 := HP9.out
          have m00 := obj_cell hM9 0
          have mf0 := obj_free hM9 0
          have p00 := obj_cell hP9 0
          simp at m00 p00
          have hnw2 : IntKind.i64.wrap ((nM : Int) + 1) = (nM : Int) + 1 := by rw [IntKind.wrap_i64]; omega
          have hm10 := obj_set hM9 0 (.int .i64 ((nM : Int) + 1))
          simp only [List.setIfInBounds_toArray, List.set_cons_zero] at hm10
          have HMA := Lib.hid hm10
          obtain ⟨we, hwe⟩ : ∃ we, we = wd.setCell ⟨w.heap.size + 1, 0, none⟩ (.int .i64 ((nM : Int) + 1)) := ⟨_, rfl⟩
          have hoth : ∀ c, c ≠ w.heap.size + 1 → we.heap[c]? = wd.heap[c]? := fun c hc => by rw [hwe]; exact Below.heap_setCell wd _ _ c hc
          rw [← hwe] at HMA
          have HAA : Hid (we.heap[w.heap.size]? = some (.cells #[x, y, .slice aM nM cM] 29 (0, 0))) := Lib.hid ((hoth _ (by omega)).trans HA9.out)
          have HOA : Hid (we.heap[w.heap.size + 2]? = some (.cells #[.slice none 0 0, .slice none 0 0, .slice none 0 0] 29 (0, 0))) := Lib.hid ((hoth _ (by omega)).trans HO9.out)
          have HPA := Lib.hid ((hoth bP (by have := HPL.out; omega)).trans hP9)
          have HBA : Hid (Below w.heap.size w we) := Lib.hid (by rw [hwe]; exact HB9.out.setCell (by show w.heap.size ≤ w.heap.size + 1; omega) _)
          clear hoth hM9 hP9 hm10 HM9 HA9 HO9 HP9
          go_upto_region 11 with fail
          rw [← hwe]
          clear hwe m00 mf0 p00
          have hAA := HAA.out
          have hMA := HMA.out
          have hPA := HPA.out
          have a0 := obj_cell hAA 0
          have a1 := obj_cell hAA 1
          have a2 := obj_cell hAA 2
          have m00 := obj_cell hMA 0
          have p00 := obj_cell hPA 0
          have m01 := obj_cell hMA 1
          have p01 := obj_cell hPA 1
          have m02 := obj_cell hMA 2
          have p02 := obj_cell hPA 2
          have m03 := obj_cell hMA 3
          have p03 := obj_cell hPA 3
          have m04 := obj_cell hMA 4
          have p04 := obj_cell hPA 4
          have m05 := obj_cell hMA 5
          have p05 := obj_cell hPA 5
          have m06 := obj_cell hMA 6
          have p06 := obj_cell hPA 6
          simp at a0 a1 a2 m00 m01 m02 m03 m04 m05 m06 p00 p01 p02 p03 p04 p05 p06
          clear hAA hMA hPA HPA
          go_wp2_with fail
          with_reducible refine Calls.mono (HFA.out (by first | rfl | trivial) _ HBA.out) ?_
          rintro e xb ⟨rfl, bb⟩
          have HBB : Hid (Below w.heap.size w xb) := Lib.hid (HBA.out.trans (bb.mono HBA.out.size))
          have HAB := Lib.hid (obj_below HAA.out bb)
          have HMB := Lib.hid (obj_below HMA.out bb)
          have HOB := Lib.hid (obj_below HOA.out bb)
          clear bb a0 a1 a2 m00 m01 m02 m03 m04 m05 m06 p00 p01 p02 p03 p04 p05 p06 HAA HMA HOA HBA
          by_cases hf0 : f = 0
          · subst hf0
            obtain rfl : res = 0 := HRES.out
            have hv := HVA.out rfl
            rw [HNU.out] at hv
            have HV := Lib.hid hv
            have hAB := HAB.out
            have a0 := obj_cell hAB 0
            have a1 := obj_cell hAB 1
            have a2 := obj_cell hAB 2
            simp at a0 a1 a2
            clear hAB hv HVN HVA HRES
            go_wp2_with fail
            with_reducible refine Calls.mono (HCP.out _ HBB.out) ?_
            rintro e xc ⟨x', y', z', rfl, bc, os, oh, om⟩
            obtain ⟨n0, hn0⟩ : ∃ n, n = xb.heap.size := ⟨_, rfl⟩
            rw [← hn0] at os oh om
            have HN0 : Hid (w.heap.size + 2 < n0) := Lib.hid (by rw [hn0]; exact obj_lt HOB.out)
            have HBC : Hid (Below w.heap.size w xc) := Lib.hid (HBB.out.trans (bc.mono HBB.out.size))
            have HNC : Hid (n0 ≤ xc.heap.size) := Lib.hid (by rw [hn0]; exact bc.size)
            have HAC := Lib.hid (obj_below HAB.out bc)
            have HMC := Lib.hid (obj_below HMB.out bc)
            have HOC := Lib.hid (obj_below HOB.out bc)
            obtain ⟨nS, hnS⟩ : ∃ n, n = r.secs.length := ⟨_, rfl⟩
            obtain ⟨nH, hnH⟩ : ∃ n, n = r.hs.length := ⟨_, rfl⟩
            obtain ⟨kS, hkS⟩ : ∃ k, k = cellsL Sec.cells r.secs := ⟨_, rfl⟩
            obtain ⟨kH, hkH⟩ : ∃ k, k = cellsL hldC r.hs := ⟨_, rfl⟩
            obtain ⟨kM, hkM⟩ : ∃ k, k = cellsL mvC r.ms := ⟨_, rfl⟩
            rw [← hnS, ← hkS] at os
            rw [← hnH, ← hkH] at oh
            rw [← HNM.out, ← hkM] at om
            obtain ⟨aU, cU, rfl, -, -⟩ := owns_gen os
            obtain ⟨aH, cH, rfl, -, -⟩ := owns_gen oh
            obtain ⟨aL, cL, rfl, -, -⟩ := owns_gen om
            obtain ⟨W5, hW5⟩ : ∃ W5, W5 = put3 xc w.heap.size (.slice aU nS cU) (.slice aH nH cH) (.slice aL nM cL) := ⟨_, rfl⟩
            have HA5 : Hid (W5.heap[w.heap.size]? = some (.cells #[.slice aU nS cU, .slice aH nH cH, .slice aL nM cL] 29 (0, 0))) := Lib.hid (by rw [hW5]; exact put3_at HAC.out rfl _ _ _)
            have hg5 := put3_grown xc w.heap.size (.slice aU nS cU) (.slice aH nH cH) (.slice aL nM cL)
            have HM5 : Hid (W5.heap[w.heap.size + 1]? = some (.cells #[.int .i64 ((nM : Int) + 1), .int .i64 m1, .int .i64 m2, .int .i64 m3, .int .i64 m4, .int .i64 m5, .int .i64 m6] 36 (0, 0))) := Lib.hid (by rw [hW5]; exact (hg5.block _ (obj_lt HMC.out) (by simp)).trans HMC.out)
            have HO5 : Hid (W5.heap[w.heap.size + 2]? = some (.cells #[.slice none 0 0, .slice none 0 0, .slice none 0 0] 29 (0, 0))) := Lib.hid (by rw [hW5]; exact (hg5.block _ (obj_lt HOC.out) (by simp)).trans HOC.out)
            have HB5 : Hid (Below w.heap.size w W5) := Lib.hid (by rw [hW5]; exact put3_below HBC.out (Nat.le_refl _) _ _ _)
            have HS5 : Hid (W5.ownsRow n0 34 7 (.slice aU nS cU) nS kS) := Lib.hid (by rw [hW5]; exact owns_put3 os (by have := HN0.out; omega) _ _ _)
            have HH5 : Hid (W5.ownsRow n0 51 3 (.slice aH nH cH) nH kH) := Lib.hid (by rw [hW5]; exact owns_put3 oh (by have := HN0.out; omega) _ _ _)
            have HL5 : Hid (W5.ownsRow n0 36 7 (.slice aL nM cL) nM kM) := Lib.hid (by rw [hW5]; exact owns_put3 om (by have := HN0.out; omega) _ _ _)
            have HN5 : Hid (n0 ≤ W5.heap.size) := Lib.hid (by rw [hW5]; exact Nat.le_trans HNC.out hg5.size)
            have hAC := HAC.out
            have c0 := obj_cell hAC 0
            have c1 := obj_cell hAC 1
            have c2 := obj_cell hAC 2
            have f0 := obj_free hAC 0
            have f1 := obj_free hAC 1
            have f2 := obj_free hAC 2
            simp at c0 c1 c2
            have HKN := Lib.hid (⟨hnS, hnH, hkS, hkH, hkM⟩ : nS = r.secs.length ∧ nH = r.hs.length ∧ kS = cellsL Sec.cells r.secs ∧ kH = cellsL hldC r.hs ∧ kM = cellsL mvC r.ms)
            clear hAC hg5 os oh om bc hnS hnH hkS hkH hkM hn0
            go_upto_region 15 with fail
            unfold put3 at hW5
            rw [← hW5]
            clear hW5 a0 a1 a2 c0 c1 c2 f0 f1 f2 HAC HMC HOC HBC HNC HAB HMB HOB HBB HFA HCP
            obtain ⟨nV, hnV⟩ : ∃ n, n = (carryM r.hs ⟨(nM : Int) + 1, m1, m2, m3, m4, m5, m6⟩).length := ⟨_, rfl⟩
            obtain ⟨kV, hkV⟩ : ∃ k, k = cellsL hldC (carryM r.hs ⟨(nM : Int) + 1, m1, m2, m3, m4, m5, m6⟩) := ⟨_, rfl⟩
            obtain ⟨kT, hkT⟩ : ∃ k, k = kM ++ (#[.int .i64 ((nM : Int) + 1), .int .i64 m1, .int .i64 m2, .int .i64 m3, .int .i64 m4, .int .i64 m5, .int .i64 m6] : Array Value).toList := ⟨_, rfl⟩
            have HKT := Lib.hid hkT
            have HKV := Lib.hid (⟨hnV, hkV⟩ : nV = (carryM r.hs ⟨(nM : Int) + 1, m1, m2, m3, m4, m5, m6⟩).length ∧ kV = cellsL hldC (carryM r.hs ⟨(nM : Int) + 1, m1, m2, m3, m4, m5, m6⟩))
            clear hkT hnV hkV
            have HCA2 : Hid (∀ W, n0 ≤ W.heap.size → W.ownsRow n0 51 3 (.slice aH nH cH) nH kH → Calls Try.prog 63 #[.slice aH nH cH, .agg #[.int .i64 ((nM : Int) + 1), .int .i64 m1, .int .i64 m2, .int .i64 m3, .int .i64 m4, .int .i64 m5, .int .i64 m6]] W fun e w' => ∃ v', e = .returned v' ∧ RowTo n0 51 3 W (.slice aH nH cH) w' v' nV kV) := Lib.hid fun W h1 h2 => by
              rw [HKV.out.1, HKV.out.2]
              exact HCA.out (by first | rfl | trivial) (by first | rfl | trivial) n0 W _ h1 (by rw [← HKN.out.2.1, ← HKN.out.2.2.2.1]; exact h2)
            obtain ⟨iM, hiM, hzM, hsM, hbM⟩ := info_parts Try.infoClnMv
            have HCE : Hid (∀ W, Below n0 W5 W → (∀ i, W.cell? ⟨w.heap.size, i, none⟩ = #[.slice aU nS cU, .slice aH nH cH, .slice aL nM cL][i]?) ∧ (∀ i, W.frozen? ⟨w.heap.size, i, none⟩ = false) ∧ (∀ i, W.cell? ⟨w.heap.size + 1, i, none⟩ = #[.int .i64 ((nM : Int) + 1), .int .i64 m1, .int .i64 m2, .int .i64 m3, .int .i64 m4, .int .i64 m5, .int .i64 m6][i]?)) := Lib.hid fun W hW => by
              have h1 := (hW.block w.heap.size (by have := HN0.out; omega)).trans HA5.out
              have h2 := (hW.block (w.heap.size + 1) (by have := HN0.out; omega)).trans HM5.out
              exact ⟨obj_cell h1, obj_free h1, obj_cell h2⟩
            have HLB : Hid (∀ g, (Value.slice aL nM cL).ownBlock = some g → g < W5.heap.size) := Lib.hid fun g hg => (HL5.out.lt g hg).2
            have egC := enters_of Try.func63 (by kernel_rfl) rfl
            obtain ⟨P, hP⟩ : ∃ P : Nat → Value → World → Prop, P = fun j v W => match j with
              | 0 => v = .pointer (some ⟨w.heap.size, 1, none⟩) | 1 => v = .slice aH nH cH | 2 => v = .agg #[.int .i64 ((nM : Int) + 1), .int .i64 m1, .int .i64 m2, .int .i64 m3, .int .i64 m4, .int .i64 m5, .int .i64 m6] | 3 => ∃ aV cV, v = .slice aV nV cV ∧ W.ownsRow n0 51 3 (.slice aV nV cV) nV kV
              | 4 => v = .pointer (some ⟨w.heap.size, 2, none⟩) | 5 => v = .slice aL nM cL | 6 => v = .agg #[.int .i64 ((nM : Int) + 1), .int .i64 m1, .int .i64 m2, .int .i64 m3, .int .i64 m4, .int .i64 m5, .int .i64 m6] | 7 => ∃ b, W5.heap.size ≤ b ∧ v = .slice (some ⟨b, 0, none⟩) 1 1 ∧ W.heap[b]? = some (.cells #[.int .i64 ((nM : Int) + 1), .int .i64 m1, .int .i64 m2, .int .i64 m3, .int .i64 m4, .int .i64 m5, .int .i64 m6] 36 (0, 0))
              | 8 => ∃ aT cT, v = .slice aT (nM + 1) cT ∧ W.ownsRow n0 36 7 (.slice aT (nM + 1) cT) (nM + 1) kT | 9 => v = .pointer (some ⟨w.heap.size, 1, none⟩) | _ => True := ⟨_, rfl⟩
            have HPI0 : Hid (∀ v W, P 0 v W ↔ (v = .pointer (some ⟨w.heap.size, 1, none⟩))) := Lib.hid fun v W => by rw [hP] <;> exact Iff.rfl
            have HPI1 : Hid (∀ v W, P 1 v W ↔ (v = .slice aH nH cH)) := Lib.hid fun v W => by rw [hP] <;> exact Iff.rfl
            have HPI2 : Hid (∀ v W, P 2 v W ↔ (v = .agg #[.int .i64 ((nM : Int) + 1), .int .i64 m1, .int .i64 m2, .int .i64 m3, .int .i64 m4, .int .i64 m5, .int .i64 m6])) := Lib.hid fun v W => by rw [hP] <;> exact Iff.rfl
            have HPI3 : Hid (∀ v W, P 3 v W ↔ (∃ aV cV, v = .slice aV nV cV ∧ W.ownsRow n0 51 3 (.slice aV nV cV) nV kV)) := Lib.hid fun v W => by rw [hP] <;> exact Iff.rfl
            have HPI4 : Hid (∀ v W, P 4 v W ↔ (v = .pointer (some ⟨w.heap.size, 2, none⟩))) := Lib.hid fun v W => by rw [hP] <;> exact Iff.rfl
            have HPI5 : Hid (∀ v W, P 5 v W ↔ (v = .slice aL nM cL)) := Lib.hid fun v W => by rw [hP] <;> exact Iff.rfl
            have HPI6 : Hid (∀ v W, P 6 v W ↔ (v = .agg #[.int .i64 ((nM : Int) + 1), .int .i64 m1, .int .i64 m2, .int .i64 m3, .int .i64 m4, .int .i64 m5, .int .i64 m6])) := Lib.hid fun v W => by rw [hP] <;> exact Iff.rfl
            have HPI7 : Hid (∀ v W, P 7 v W ↔ (∃ b, W5.heap.size ≤ b ∧ v = .slice (some ⟨b, 0, none⟩) 1 1 ∧ W.heap[b]? = some (.cells #[.int .i64 ((nM : Int) + 1), .int .i64 m1, .int .i64 m2, .int .i64 m3, .int .i64 m4, .int .i64 m5, .int .i64 m6] 36 (0, 0)))) := Lib.hid fun v W => by rw [hP] <;> exact Iff.rfl
            have HPI8 : Hid (∀ v W, P 8 v W ↔ (∃ aT cT, v = .slice aT (nM + 1) cT ∧ W.ownsRow n0 36 7 (.slice aT (nM + 1) cT) (nM + 1) kT)) := Lib.hid fun v W => by rw [hP] <;> exact Iff.rfl
            have HPI9 : Hid (∀ v W, P 9 v W ↔ (v = .pointer (some ⟨w.heap.size, 1, none⟩))) := Lib.hid fun v W => by rw [hP] <;> exact Iff.rfl
            have HKB : Hid (∀ (j : Nat) v W W', Below W.heap.size W W' → P j v W → P j v W') := Lib.hid (by
              rw [hP]
              intro j v W W' hb h
              match j, h with
              | 0, h => exact h
              | 1, h => exact h
              | 2, h => exact h
              | 3, h => obtain ⟨aV, cV, e, q⟩ := h; exact ⟨aV, cV, e, ownsRow_below q hb⟩
              | 4, h => exact h
              | 5, h => exact h
              | 6, h => exact h
              | 7, h => obtain ⟨b, e1, e2, q⟩ := h; exact ⟨b, e1, e2, obj_below q hb⟩
              | 8, h => obtain ⟨aT, cT, e, q⟩ := h; exact ⟨aT, cT, e, ownsRow_below q hb⟩
              | 9, h => exact h
              | j + 10, _ => trivial)
            have HKC : Hid (∀ (j : Nat) v W W', j ≠ 3 → W.ownsRow n0 51 3 (.slice aH nH cH) nH kH → W.grownBy W' (Value.slice aH nH cH).ownBlock → P j v W → P j v W') := Lib.hid (by
              rw [hP]
              intro j v W W' hj ho hg h
              match j, hj, h with
              | 0, hj, h => exact h
              | 1, hj, h => exact h
              | 2, hj, h => exact h
              | 3, hj, h => exact absurd rfl hj
              | 4, hj, h => exact h
              | 5, hj, h => exact h
              | 6, hj, h => exact h
              | 7, hj, h => obtain ⟨b, e1, e2, q⟩ := h; exact ⟨b, e1, e2, obj_apart q ho (by decide) hg⟩
              | 8, hj, h => obtain ⟨aT, cT, e, q⟩ := h; exact ⟨aT, cT, e, owns_apart q ho (by decide) hg⟩
              | 9, hj, h => exact h
              | j + 10, _, _ => trivial)
            have HKL : Hid (∀ (j : Nat) v W W', j ≠ 8 → W.ownsRow n0 36 7 (.slice aL nM cL) nM kM → W.grownBy W' (Value.slice aL nM cL).ownBlock → P j v W → P j v W') := Lib.hid (by
              rw [hP]
              intro j v W W' hj ho hg h
              match j, hj, h with
              | 0, hj, h => exact h
              | 1, hj, h => exact h
              | 2, hj, h => exact h
              | 3, hj, h => obtain ⟨aV, cV, e, q⟩ := h; exact ⟨aV, cV, e, owns_apart q ho (by decide) hg⟩
              | 4, hj, h => exact h
              | 5, hj, h => exact h
              | 6, hj, h => exact h
              | 7, hj, h => obtain ⟨b, e1, e2, q⟩ := h; exact ⟨b, e1, e2, (hg.block b (obj_lt q) fun e => by have := HLB.out b e.symm; omega).trans q⟩
              | 8, hj, h => exact absurd rfl hj
              | 9, hj, h => exact h
              | j + 10, _, _ => trivial)
            clear hP
            go_cut [] (fun wx => ∃ aV cV aT cT W0, Hid ((Below n0 W5 W0 ∧ W0.ownsRow n0 34 7 (.slice aU nS cU) nS kS ∧ W0.ownsRow n0 51 3 (.slice aV nV cV) nV kV ∧ W0.ownsRow n0 36 7 (.slice aT (nM + 1) cT) (nM + 1) kT) ∧ wx = (W0.setCell ⟨w.heap.size, 1, none⟩ (.slice aV nV cV)).setCell ⟨w.heap.size, 2, none⟩ (.slice aT (nM + 1) cT)))
            case first =>
              refine wp_region_tail2 [49, 50, 51, 52, 53, 54, 55, 56, 57, 58, 59] (slotS [49, 50, 51, 52, 53, 54, 55, 56, 57, 58]) (readsS [49, 50, 51, 52, 53, 54, 55, 56, 57, 58]) (RP [49, 50, 51, 52, 53, 54, 55, 56, 57, 58] P) (fun b c W => Below n0 W5 W ∧ W.ownsRow n0 34 7 (.slice aU nS cU) nS kS ∧ (b = false → W.ownsRow n0 51 3 (.slice aH nH cH) nH kH) ∧ (c = false → W.ownsRow n0 36 7 (.slice aL nM cL) nM kM)) 3 8 (fun k f W => ∃ aV cV aT cT, f 52 = .slice aV nV cV ∧ f 57 = .slice aT (nM + 1) cT ∧ f 58 = .pointer (some ⟨w.heap.size, 1, none⟩) ∧ (1 < k → f 59 = .pointer (some ⟨w.heap.size, 2, none⟩)) ∧ ∃ W0, (Below n0 W5 W0 ∧ W0.ownsRow n0 34 7 (.slice aU nS cU) nS kS ∧ W0.ownsRow n0 51 3 (.slice aV nV cV) nV kV ∧ W0.ownsRow n0 36 7 (.slice aT (nM + 1) cT) (nM + 1) kT) ∧ W = (if k = 0 then W0 else if k < 3 then W0.setCell ⟨w.heap.size, 1, none⟩ (.slice aV nV cV) else (W0.setCell ⟨w.heap.size, 1, none⟩ (.slice aV nV cV)).setCell ⟨w.heap.size, 2, none⟩ (.slice aT (nM + 1) cT))) 10 8 (by decide) (by decide) (by decide) (by kernel_rfl) (by kernel_rfl) (by kernel_rfl) (by kernel_rfl) ⟨((Below.refl _ _).mono HN5.out).drew, HS5.out, fun _ => HH5.out, fun _ => HL5.out⟩ (fun j f q v W hq h => RP.upd hq h) ?_ ?_ ?_ ?_
              case refine_1 =>
                intro iq hiq f W bb bc hIW he1 he2 hdep0
                obtain ⟨hBW, hSW, hHW, hLW⟩ := hIW
                have hiq' : iq < 10 := hiq
                have hdep : ∀ j, depB _ iq j = true → P j (f (slotS [49, 50, 51, 52, 53, 54, 55, 56, 57, 58] j)) W := hdep0
                clear hdep0
                obtain ⟨hcA, hfA, hcM⟩ := HCE.out W hBW
                generalize ha1 : putsL _ [49, 50, 51, 52, 53, 54, 55, 56, 57, 58, 59] f = a1
                match iq, hiq', hdep, he1, he2 with
                | 0, _, hdep, he1, he2 =>
                  have E2 : a1.tmps[2]?.getD undef = .pointer (some ⟨w.heap.size, 0, none⟩) := by rw [← ha1]; exact (putsL_out2 _ _ _ _ (by decide)).trans rfl
                  exact wpOp_val rfl rfl (v := .pointer (some ⟨w.heap.size, 1, none⟩)) (w' := W) (by simp [execOp, go_sem, E2]) ⟨⟨hBW, hSW, by simpa using hHW, by simpa using hLW⟩, fun _ _ h => h, _, by decide, rfl, RP.set ((HPI0.out _ _).2 rfl)⟩
                | 1, _, hdep, he1, he2 =>
                  have E49 : a1.tmps[49]?.getD undef = .pointer (some ⟨w.heap.size, 1, none⟩) := by rw [← ha1]; exact (putsL_in2 _ _ _ _ (by decide) (show 49 < 61 from by decide)).trans ((HPI0.out _ _).1 (hdep 0 (by kernel_rfl)))
                  have v1 : W.cell? ⟨w.heap.size, 1, none⟩ = some (.slice aH nH cH) := by simpa using hcA 1
                  exact wpOp_val rfl rfl (v := .slice aH nH cH) (w' := W) (by simp [execOp, go_sem, E49, v1]) ⟨⟨hBW, hSW, by simpa using hHW, by simpa using hLW⟩, fun _ _ h => h, _, by decide, rfl, RP.set ((HPI1.out _ _).2 rfl)⟩
                | 2, _, hdep, he1, he2 =>
                  have E3 : a1.tmps[3]?.getD undef = .pointer (some ⟨w.heap.size + 1, 0, none⟩) := by rw [← ha1]; exact (putsL_out2 _ _ _ _ (by decide)).trans rfl
                  have v0 : W.cell? ⟨w.heap.size + 1, 0, none⟩ = some (.int .i64 ((nM : Int) + 1)) := by simpa using hcM 0
                  have v1 : W.cell? ⟨w.heap.size + 1, 1, none⟩ = some (.int .i64 m1) := by simpa using hcM 1
                  have v2 : W.cell? ⟨w.heap.size + 1, 2, none⟩ = some (.int .i64 m2) := by simpa using hcM 2
                  have v3 : W.cell? ⟨w.heap.size + 1, 3, none⟩ = some (.int .i64 m3) := by simpa using hcM 3
                  have v4 : W.cell? ⟨w.heap.size + 1, 4, none⟩ = some (.int .i64 m4) := by simpa using hcM 4
                  have v5 : W.cell? ⟨w.heap.size + 1, 5, none⟩ = some (.int .i64 m5) := by simpa using hcM 5
                  have v6 : W.cell? ⟨w.heap.size + 1, 6, none⟩ = some (.int .i64 m6) := by simpa using hcM 6
                  exact wpOp_val rfl rfl (v := .agg #[.int .i64 ((nM : Int) + 1), .int .i64 m1, .int .i64 m2, .int .i64 m3, .int .i64 m4, .int .i64 m5, .int .i64 m6]) (w' := W) (by simp [execOp, go_sem, E3, v0, v1, v2, v3, v4, v5, v6]) ⟨⟨hBW, hSW, by simpa using hHW, by simpa using hLW⟩, fun _ _ h => h, _, by decide, rfl, RP.set ((HPI2.out _ _).2 rfl)⟩
                | 3, _, hdep, he1, he2 =>
                  have hbf := he1 rfl
                  subst hbf
                  have E50 : a1.tmps[50]?.getD undef = .slice aH nH cH := by rw [← ha1]; exact (putsL_in2 _ _ _ _ (by decide) (show 50 < 61 from by decide)).trans ((HPI1.out _ _).1 (hdep 1 (by kernel_rfl)))
                  have E51 : a1.tmps[51]?.getD undef = .agg #[.int .i64 ((nM : Int) + 1), .int .i64 m1, .int .i64 m2, .int .i64 m3, .int .i64 m4, .int .i64 m5, .int .i64 m6] := by rw [← ha1]; exact (putsL_in2 _ _ _ _ (by decide) (show 51 < 61 from by decide)).trans ((HPI2.out _ _).1 (hdep 2 (by kernel_rfl)))
                  have hoH := hHW rfl
                  refine wpOp_call rfl rfl (n := 63) (vs := #[.slice aH nH cH, .agg #[.int .i64 ((nM : Int) + 1), .int .i64 m1, .int .i64 m2, .int .i64 m3, .int .i64 m4, .int .i64 m5, .int .i64 m6]]) (by have := egC #[.slice aH nH cH, .agg #[.int .i64 ((nM : Int) + 1), .int .i64 m1, .int .i64 m2, .int .i64 m3, .int .i64 m4, .int .i64 m5, .int .i64 m6]] W; simp [execOp, E50, E51, resolve, invoke, go_sem] <;> exact this) ((HCA2.out W (Nat.le_trans HN5.out hBW.size) hoH).mono fun e w' hh => (by obtain ⟨v', rfl, hr⟩ := hh; exact ⟨_, rfl, hr⟩ : ∃ v, e = .returned v ∧ RowTo n0 51 3 W (.slice aH nH cH) w' v nV kV)) ?_
                  rintro v w' hr
                  obtain ⟨aV, cV, rfl, -, -⟩ := owns_gen hr.owns
                  exact ⟨⟨hBW.trans (hr.belowB hoH (Nat.le_trans HN5.out hBW.size)), owns_apart hSW hoH (by decide) hr.grown, by simp, fun h => owns_apart (hLW (by simpa using h)) hoH (by decide) hr.grown⟩, fun j hj h => HKC.out j _ _ _ hj hoH hr.grown h, _, by decide, rfl, RP.set ((HPI3.out _ _).2 ⟨_, _, rfl, hr.owns⟩)⟩
                | 4, _, hdep, he1, he2 =>
                  have E2 : a1.tmps[2]?.getD undef = .pointer (some ⟨w.heap.size, 0, none⟩) := by rw [← ha1]; exact (putsL_out2 _ _ _ _ (by decide)).trans rfl
                  exact wpOp_val rfl rfl (v := .pointer (some ⟨w.heap.size, 2, none⟩)) (w' := W) (by simp [execOp, go_sem, E2]) ⟨⟨hBW, hSW, by simpa using hHW, by simpa using hLW⟩, fun _ _ h => h, _, by decide, rfl, RP.set ((HPI4.out _ _).2 rfl)⟩
                | 5, _, hdep, he1, he2 =>
                  have E53 : a1.tmps[53]?.getD undef = .pointer (some ⟨w.heap.size, 2, none⟩) := by rw [← ha1]; exact (putsL_in2 _ _ _ _ (by decide) (show 53 < 61 from by decide)).trans ((HPI4.out _ _).1 (hdep 4 (by kernel_rfl)))
                  have v2 : W.cell? ⟨w.heap.size, 2, none⟩ = some (.slice aL nM cL) := by simpa using hcA 2
                  exact wpOp_val rfl rfl (v := .slice aL nM cL) (w' := W) (by simp [execOp, go_sem, E53, v2]) ⟨⟨hBW, hSW, by simpa using hHW, by simpa using hLW⟩, fun _ _ h => h, _, by decide, rfl, RP.set ((HPI5.out _ _).2 rfl)⟩
                | 6, _, hdep, he1, he2 =>
                  have E3 : a1.tmps[3]?.getD undef = .pointer (some ⟨w.heap.size + 1, 0, none⟩) := by rw [← ha1]; exact (putsL_out2 _ _ _ _ (by decide)).trans rfl
                  have v0 : W.cell? ⟨w.heap.size + 1, 0, none⟩ = some (.int .i64 ((nM : Int) + 1)) := by simpa using hcM 0
                  have v1 : W.cell? ⟨w.heap.size + 1, 1, none⟩ = some (.int .i64 m1) := by simpa using hcM 1
                  have v2 : W.cell? ⟨w.heap.size + 1, 2, none⟩ = some (.int .i64 m2) := by simpa using hcM 2
                  have v3 : W.cell? ⟨w.heap.size + 1, 3, none⟩ = some (.int .i64 m3) := by simpa using hcM 3
                  have v4 : W.cell? ⟨w.heap.size + 1, 4, none⟩ = some (.int .i64 m4) := by simpa using hcM 4
                  have v5 : W.cell? ⟨w.heap.size + 1, 5, none⟩ = some (.int .i64 m5) := by simpa using hcM 5
                  have v6 : W.cell? ⟨w.heap.size + 1, 6, none⟩ = some (.int .i64 m6) := by simpa using hcM 6
                  exact wpOp_val rfl rfl (v := .agg #[.int .i64 ((nM : Int) + 1), .int .i64 m1, .int .i64 m2, .int .i64 m3, .int .i64 m4, .int .i64 m5, .int .i64 m6]) (w' := W) (by simp [execOp, go_sem, E3, v0, v1, v2, v3, v4, v5, v6]) ⟨⟨hBW, hSW, by simpa using hHW, by simpa using hLW⟩, fun _ _ h => h, _, by decide, rfl, RP.set ((HPI6.out _ _).2 rfl)⟩
                | 7, _, hdep, he1, he2 =>
                  have E55 : a1.tmps[55]?.getD undef = .agg #[.int .i64 ((nM : Int) + 1), .int .i64 m1, .int .i64 m2, .int .i64 m3, .int .i64 m4, .int .i64 m5, .int .i64 m6] := by rw [← ha1]; exact (putsL_in2 _ _ _ _ (by decide) (show 55 < 61 from by decide)).trans ((HPI6.out _ _).1 (hdep 6 (by kernel_rfl)))
                  have hal := below_alloc W (.cells #[.int .i64 ((nM : Int) + 1), .int .i64 m1, .int .i64 m2, .int .i64 m3, .int .i64 m4, .int .i64 m5, .int .i64 m6] 36)
                  exact wpOp_val rfl rfl (v := .slice (some ⟨W.heap.size, 0, none⟩) 1 1) (w' := W.alloc (.cells #[.int .i64 ((nM : Int) + 1), .int .i64 m1, .int .i64 m2, .int .i64 m3, .int .i64 m4, .int .i64 m5, .int .i64 m6] 36)) (by simp [execOp, go_sem, E55]) ⟨⟨hBW.alloc (Nat.le_trans HN5.out hBW.size) _, ownsRow_below hSW hal, fun h => ownsRow_below (hHW (by simpa using h)) hal, fun h => ownsRow_below (hLW (by simpa using h)) hal⟩, fun j _ h => HKB.out j _ _ _ hal h, _, by decide, rfl, RP.set ((HPI7.out _ _).2 ⟨W.heap.size, hBW.size, rfl, heap_alloc_new W _⟩)⟩
                | 8, _, hdep, he1, he2 =>
                  have hbf := he2 rfl
                  subst hbf
                  have E54 : a1.tmps[54]?.getD undef = .slice aL nM cL := by rw [← ha1]; exact (putsL_in2 _ _ _ _ (by decide) (show 54 < 61 from by decide)).trans ((HPI5.out _ _).1 (hdep 5 (by kernel_rfl)))
                  obtain ⟨bN, hbN, q56, hcN⟩ := (HPI7.out _ _).1 (hdep 7 (by kernel_rfl))
                  have E56 : a1.tmps[56]?.getD undef = .slice (some ⟨bN, 0, none⟩) 1 1 := by rw [← ha1]; exact (putsL_in2 _ _ _ _ (by decide) (show 56 < 61 from by decide)).trans q56
                  have hoL := hLW rfl
                  refine wpOp_append rfl rfl (.tmp 54) (.tmp 56) 27 rfl n0 36 iM _ 7 56 (by kernel_rfl) hiM hzM hsM hbM rfl (by decide) (.slice aL nM cL) nM kM (by simpa [Act.eval] using E54) hoL ⟨bN, 0, none⟩ 1 1 (#[.int .i64 ((nM : Int) + 1), .int .i64 m1, .int .i64 m2, .int .i64 m3, .int .i64 m4, .int .i64 m5, .int .i64 m6] : Array Value).toList (by simpa [Act.eval] using E56) rfl (fun j u hj => by rw [Addr.add_lit, Nat.zero_add, cell_of_row W bN _ _ _ (0, 0) hcN]; simpa using hj) (by intro u hu; simp at hu; rcases hu with rfl | rfl | rfl | rfl | rfl | rfl | rfl <;> rfl) (by unfold maxLen; omega) (by omega) (Nat.le_trans HN5.out hBW.size) ?_
                  rintro v w' ho hg
                  obtain ⟨aT, cT, rfl, -, -⟩ := owns_gen ho
                  have hBn : Below n0 W w' := ⟨hg.os, hg.tape, hg.output, hg.size, fun k hk => hg.block k (Nat.lt_of_lt_of_le hk (Nat.le_trans HN5.out hBW.size)) fun e => by have := (hoL.lt k e.symm).1; omega⟩
                  have hSL : w'.ownsRow n0 34 7 (.slice aU nS cU) nS kS := owns_apart hSW hoL (by decide) hg
                  exact ⟨⟨hBW.trans hBn, hSL, fun h => owns_apart (hHW (by simpa using h)) hoL (by decide) hg, by simp⟩, fun j hj h => HKL.out j _ _ _ hj hoL hg h, _, by decide, rfl, RP.set ((HPI8.out _ _).2 ⟨_, _, rfl, by rw [HKT.out]; exact ho⟩)⟩
                | 9, _, hdep, he1, he2 =>
                  have E2 : a1.tmps[2]?.getD undef = .pointer (some ⟨w.heap.size, 0, none⟩) := by rw [← ha1]; exact (putsL_out2 _ _ _ _ (by decide)).trans rfl
                  exact wpOp_val rfl rfl (v := .pointer (some ⟨w.heap.size, 1, none⟩)) (w' := W) (by simp [execOp, go_sem, E2]) ⟨⟨hBW, hSW, by simpa using hHW, by simpa using hLW⟩, fun _ _ h => h, _, by decide, rfl, RP.set ((HPI9.out _ _).2 rfl)⟩
                | iq + 10, h, _, _, _ => exact absurd h (by omega)
              case refine_2 =>
                intro f W hIW hR
                obtain ⟨hBW, hSW, -, -⟩ := hIW
                obtain ⟨aV, cV, e52, o52⟩ := (HPI3.out _ _).1 (hR 3 (by decide))
                obtain ⟨aT, cT, e57, o57⟩ := (HPI8.out _ _).1 (hR 8 (by decide))
                exact ⟨aV, cV, aT, cT, e52, e57, (HPI9.out _ _).1 (hR 9 (by decide)), fun h => absurd h (by decide), W, ⟨hBW, hSW, o52, o57⟩, rfl⟩
              case refine_3 =>
                intro iq hs10 hiq f W hIt
                have hiq' : iq < 13 := hiq
                obtain ⟨aV, cV, aT, cT, e52, e57, e58, e59, W0, ⟨hBW, hSW, hVW, hTW⟩, hWe⟩ := hIt
                obtain ⟨hcA, hfA, -⟩ := HCE.out W0 hBW
                generalize ha1 : putsL _ [49, 50, 51, 52, 53, 54, 55, 56, 57, 58, 59] f = a1
                have E52 : a1.tmps[52]?.getD undef = .slice aV nV cV := by rw [← ha1]; exact (putsL_in2 _ _ _ _ (by decide) (show 52 < 61 from by decide)).trans e52
                have E57 : a1.tmps[57]?.getD undef = .slice aT (nM + 1) cT := by rw [← ha1]; exact (putsL_in2 _ _ _ _ (by decide) (show 57 < 61 from by decide)).trans e57
                have E58 : a1.tmps[58]?.getD undef = .pointer (some ⟨w.heap.size, 1, none⟩) := by rw [← ha1]; exact (putsL_in2 _ _ _ _ (by decide) (show 58 < 61 from by decide)).trans e58
                have E2 : a1.tmps[2]?.getD undef = .pointer (some ⟨w.heap.size, 0, none⟩) := by rw [← ha1]; exact (putsL_out2 _ _ _ _ (by decide)).trans rfl
                have v1 : W0.cell? ⟨w.heap.size, 1, none⟩ = some (.slice aH nH cH) := by simpa using hcA 1
                have v2 : W0.cell? ⟨w.heap.size, 2, none⟩ = some (.slice aL nM cL) := by simpa using hcA 2
                have f1 := hfA 1
                have f2 := hfA 2
                match iq, hs10, hiq' with
                | 10, _, _ =>
                  obtain rfl : W = W0 := hWe
                  exact wpOp_skip rfl rfl (w' := W.setCell ⟨w.heap.size, 1, none⟩ (.slice aV nV cV)) (by simp [execOp, go_sem, E58, E52, v1, f1]) ⟨f, ha1.symm, aV, cV, aT, cT, e52, e57, e58, fun h => absurd h (by decide), W, ⟨hBW, hSW, hVW, hTW⟩, rfl⟩
                | 11, _, _ =>
                  exact wpOp_val rfl rfl (v := .pointer (some ⟨w.heap.size, 2, none⟩)) (w' := W) (by simp [execOp, go_sem, E2]) ⟨updF f 59 (.pointer (some ⟨w.heap.size, 2, none⟩)), by rw [← ha1]; exact putsL_put _ _ _ _ _ (by decide), aV, cV, aT, cT, (updF_other f _ (by decide)).trans e52, (updF_other f _ (by decide)).trans e57, (updF_other f _ (by decide)).trans e58, fun _ => updF_same _ _ _, W0, ⟨hBW, hSW, hVW, hTW⟩, hWe⟩
                | 12, _, _ =>
                  have E59 : a1.tmps[59]?.getD undef = .pointer (some ⟨w.heap.size, 2, none⟩) := by rw [← ha1]; exact (putsL_in2 _ _ _ _ (by decide) (show 59 < 61 from by decide)).trans (e59 (by decide))
                  obtain rfl : W = W0.setCell ⟨w.heap.size, 1, none⟩ (.slice aV nV cV) := hWe
                  exact wpOp_skip rfl rfl (w' := (W0.setCell ⟨w.heap.size, 1, none⟩ (.slice aV nV cV)).setCell ⟨w.heap.size, 2, none⟩ (.slice aT (nM + 1) cT)) (by simp [execOp, go_sem, E59, E57, v2, f2]) ⟨f, ha1.symm, aV, cV, aT, cT, e52, e57, e58, fun _ => e59 (by decide), W0, ⟨hBW, hSW, hVW, hTW⟩, rfl⟩
                | iq + 13, _, h => exact absurd h (by omega)
              case refine_4 =>
                intro f W hIt
                obtain ⟨aV, cV, aT, cT, -, -, -, -, W0, hF, hWe⟩ := hIt
                have hWe2 : W = (W0.setCell ⟨w.heap.size, 1, none⟩ (.slice aV nV cV)).setCell ⟨w.heap.size, 2, none⟩ (.slice aT (nM + 1) cT) := hWe
                have HWE2 := Lib.hid hWe2
                clear hWe hWe2
                simp only [putsL, List.foldl_cons, List.foldl_nil, Act.put, List.setIfInBounds_toArray, List.set_cons_zero, List.set_cons_succ]
                go_wp2
                go_meet
                exact ⟨aV, cV, aT, cT, W0, Lib.hid ⟨hF, HWE2.out⟩⟩
            case rest =>
              obtain ⟨aV, cV, aT, cT, W0, HF⟩ := hcut
              have hB0 : Below w.heap.size w W0 := HB5.out.trans (HF.out.1.1.mono (by have := HN0.out; omega))
              have hA0 := (HF.out.1.1.block w.heap.size (by have := HN0.out; omega)).trans HA5.out
              have hO0 := (HF.out.1.1.block (w.heap.size + 2) HN0.out).trans HO5.out
              have hA6 := obj_set (obj_set hA0 1 (.slice aV nV cV)) 2 (.slice aT (nM + 1) cT)
              simp only [List.setIfInBounds_toArray, List.set_cons_zero, List.set_cons_succ] at hA6
              have hoth : ∀ c, c ≠ w.heap.size → wc.heap[c]? = W0.heap[c]? := fun c hc => by
                rw [HF.out.2]
                exact (Below.heap_setCell _ _ _ c hc).trans (Below.heap_setCell _ _ _ c hc)
              rw [← HF.out.2] at hA6
              have HA6 := Lib.hid hA6
              have HO6 : Hid (wc.heap[w.heap.size + 2]? = some (.cells #[.slice none 0 0, .slice none 0 0, .slice none 0 0] 29 (0, 0))) := Lib.hid ((hoth _ (by omega)).trans hO0)
              have HB6 : Hid (Below w.heap.size w wc) := Lib.hid (by
                rw [HF.out.2]
                exact (hB0.setCell (Nat.le_refl _) _).setCell (Nat.le_refl _) _)
              have HS6 : Hid (wc.ownsRow n0 34 7 (.slice aU nS cU) nS kS) := Lib.hid (by rw [HF.out.2]; exact ownsRow_setCell_below (ownsRow_setCell_below HF.out.1.2.1 (by have := HN0.out; show w.heap.size < n0; omega) _) (by have := HN0.out; show w.heap.size < n0; omega) _)
              have HV6 : Hid (wc.ownsRow n0 51 3 (.slice aV nV cV) nV kV) := Lib.hid (by rw [HF.out.2]; exact ownsRow_setCell_below (ownsRow_setCell_below HF.out.1.2.2.1 (by have := HN0.out; show w.heap.size < n0; omega) _) (by have := HN0.out; show w.heap.size < n0; omega) _)
              have HT6 : Hid (wc.ownsRow n0 36 7 (.slice aT (nM + 1) cT) (nM + 1) kT) := Lib.hid (by rw [HF.out.2]; exact ownsRow_setCell_below (ownsRow_setCell_below HF.out.1.2.2.2 (by have := HN0.out; show w.heap.size < n0; omega) _) (by have := HN0.out; show w.heap.size < n0; omega) _)
              have hO6 := HO6.out
              have o0 := obj_cell hO6 0
              have o1 := obj_cell hO6 1
              have o2 := obj_cell hO6 2
              have f0 := obj_free hO6 0
              have f1 := obj_free hO6 1
              have f2 := obj_free hO6 2
              have a0 := obj_cell hA6 0
              have a1 := obj_cell hA6 1
              have a2 := obj_cell hA6 2
              simp at o0 o1 o2 a0 a1 a2
              clear hO6 hA6 hoth hA0 hO0 hB0 HF HCA HCA2 HCE HLB HKB HKC HKL HPI0 HPI1 HPI2 HPI3 HPI4 HPI5 HPI6 HPI7 HPI8 HPI9 HA5 HM5 HO5 HS5 HH5 HL5 HB5
              have HFIN : Hid (∀ W : World, W.ownsRow n0 34 7 (.slice aU nS cU) nS kS → W.ownsRow n0 51 3 (.slice aV nV cV) nV kV → W.ownsRow n0 36 7 (.slice aT (nM + 1) cT) (nM + 1) kT → RegAt W (.slice aU nS cU) (.slice aV nV cV) (.slice aT (nM + 1) cT) vr) := Lib.hid fun W q1 q2 q3 => by
                rw [HV.out]
                rw [HKN.out.1, HKN.out.2.2.1] at q1
                rw [HKV.out.1, HKV.out.2] at q2
                have e3 : kT = cellsL mvC (r.ms ++ [(⟨(nM : Int) + 1, m1, m2, m3, m4, m5, m6⟩ : Mv)]) := by
                  rw [HKT.out, HKN.out.2.2.2.2, ← cellsL_snoc]; rfl
                have e4 : nM + 1 = (r.ms ++ [(⟨(nM : Int) + 1, m1, m2, m3, m4, m5, m6⟩ : Mv)]).length := by rw [List.length_append, ← HNM.out]; rfl
                rw [HKN.out.1, HKV.out.1]
                rw [e3, e4] at q3
                rw [e4]
                exact ⟨ListAt.owns q1, ListAt.owns q2, ListAt.owns q3⟩
              go_wp2
              refine ret3 HO6.out rfl _ _ _ (fun F hF => ?_) rfl ⟨_, _, _, rfl, HFIN.out _ (owns_put3 HS6.out HN0.out _ _ _) (owns_put3 HV6.out HN0.out _ _ _) (owns_put3 HT6.out HN0.out _ _ _), put3_below HB6.out (by omega) _ _ _⟩
              have q0 := obj_cell hF 0
              have q1 := obj_cell hF 1
              have q2 := obj_cell hF 2
              simp [results, Try.results59, go_sem, q0, q1, q2]
          · obtain rfl : res = f := HRES.out
            obtain rfl := HVN.out hf0
            have hbf : (res != 0) = true := by simpa using hf0
            have hOB := HOB.out
            have o0 := obj_cell hOB 0
            have o1 := obj_cell hOB 1
            have o2 := obj_cell hOB 2
            have f0 := obj_free hOB 0
            have f1 := obj_free hOB 1
            have f2 := obj_free hOB 2
            simp at o0 o1 o2
            clear hOB
            go_wp2
            refine ret3 HOB.out rfl _ _ _ (fun F hF => ?_) rfl ⟨_, _, _, rfl, none_at _, put3_below HBB.out (by omega) _ _ _⟩
            have q0 := obj_cell hF 0
            have q1 := obj_cell hF 1
            have q2 := obj_cell hF 2
            simp [results, Try.results59, go_sem, q0, q1, q2]
        | true =>
          have hn0 : 0 < nM := HQ.out.1 rfl
          obtain ⟨b, o, rfl, hb, hcc⟩ := hmc2 hn0
          have hcell := fun j (hj : j < 7) => (HB8.out.cell (p := ⟨b, o + (nM - 1) * 7 + j, none⟩) hb).trans (hcc j hj)
          have c0 := hcell 0 (by omega)
          have c1 := hcell 1 (by omega)
          have c2 := hcell 2 (by omega)
          have c3 := hcell 3 (by omega)
          have c4 := hcell 4 (by omega)
          have c5 := hcell 5 (by omega)
          have c6 := hcell 6 (by omega)
          simp at c0 c1 c2 c3 c4 c5 c6
          have hP8 := HP8.out
          have g0 := obj_free hP8 0
          have g1 := obj_free hP8 1
          have g2 := obj_free hP8 2
          have g3 := obj_free hP8 3
          have g4 := obj_free hP8 4
          have g5 := obj_free hP8 5
          have g6 := obj_free hP8 6
          have p0 := obj_cell hP8 0
          have p1 := obj_cell hP8 1
          have p2 := obj_cell hP8 2
          have p3 := obj_cell hP8 3
          have p4 := obj_cell hP8 4
          have p5 := obj_cell hP8 5
          have p6 := obj_cell hP8 6
          simp at p0 p1 p2 p3 p4 p5 p6
          have hnw : IntKind.i64.wrap ((nM : Int) - 1) = ((nM - 1 : Nat) : Int) := by rw [IntKind.wrap_i64]; omega
          have hn1 : (0 : Int) ≤ ((nM - 1 : Nat) : Int) := by omega
          have hn2 : ((nM - 1 : Nat) : Int) < (nM : Int) := by omega
          have hn3 : (nM : Int) - 1 = ((nM - 1 : Nat) : Int) := by omega
          clear hcell hcc hP8 hmc2 hl0
          go_upto_region 10 with fail
          have hput : ∀ c, c ≠ bP → (put7 wc bP (.int .i64 (nM : Int)) (.int .i64 l1) (.int .i64 l2) (.int .i64 l3) (.int .i64 l4) (.int .i64 l5) (.int .i64 l6)).heap[c]? = wc.heap[c]? := fun c hc => put7_other hc _ _ _ _ _ _ _
          have HB9 := Lib.hid (put7_below HB8.out (by have := HPL.out; omega : w.heap.size ≤ bP) (.int .i64 (nM : Int)) (.int .i64 l1) (.int .i64 l2) (.int .i64 l3) (.int .i64 l4) (.int .i64 l5) (.int .i64 l6))
          have HA9 := Lib.hid ((hput _ (by have := HPL.out; omega)).trans HA8.out)
          have HM9 := Lib.hid ((hput _ (by have := HPL.out; omega)).trans HM8.out)
          have HO9 := Lib.hid ((hput _ (by have := HPL.out; omega)).trans HO8.out)
          have HP9 := Lib.hid (put7_at HP8.out rfl (.int .i64 (nM : Int)) (.int .i64 l1) (.int .i64 l2) (.int .i64 l3) (.int .i64 l4) (.int .i64 l5) (.int .i64 l6))
          clear hput
          obtain ⟨wd, hwd⟩ : ∃ wd, wd = put7 wc bP (.int .i64 (nM : Int)) (.int .i64 l1) (.int .i64 l2) (.int .i64 l3) (.int .i64 l4) (.int .i64 l5) (.int .i64 l6) := ⟨_, rfl⟩
          rw [← hwd] at HB9 HA9 HM9 HO9 HP9
          unfold put7 at hwd
          rw [← hwd]
          clear hwd g0 g1 g2 g3 g4 g5 g6 p0 p1 p2 p3 p4 p5 p6 c0 c1 c2 c3 c4 c5 c6 a2
          clear HB8 HA8 HM8 HO8 HP8
          have hM9 := HM9.out
          have hP9 := HP9.out
          have m00 := obj_cell hM9 0
          have mf0 := obj_free hM9 0
          have p00 := obj_cell hP9 0
          simp at m00 p00
          have hnw2 : IntKind.i64.wrap ((nM : Int) + 1) = (nM : Int) + 1 := by rw [IntKind.wrap_i64]; omega
          have hm10 := obj_set hM9 0 (.int .i64 ((nM : Int) + 1))
          simp only [List.setIfInBounds_toArray, List.set_cons_zero] at hm10
          have HMA := Lib.hid hm10
          obtain ⟨we, hwe⟩ : ∃ we, we = wd.setCell ⟨w.heap.size + 1, 0, none⟩ (.int .i64 ((nM : Int) + 1)) := ⟨_, rfl⟩
          have hoth : ∀ c, c ≠ w.heap.size + 1 → we.heap[c]? = wd.heap[c]? := fun c hc => by rw [hwe]; exact Below.heap_setCell wd _ _ c hc
          rw [← hwe] at HMA
          have HAA : Hid (we.heap[w.heap.size]? = some (.cells #[x, y, .slice (some ⟨b, o, none⟩) nM cM] 29 (0, 0))) := Lib.hid ((hoth _ (by omega)).trans HA9.out)
          have HOA : Hid (we.heap[w.heap.size + 2]? = some (.cells #[.slice none 0 0, .slice none 0 0, .slice none 0 0] 29 (0, 0))) := Lib.hid ((hoth _ (by omega)).trans HO9.out)
          have HPA := Lib.hid ((hoth bP (by have := HPL.out; omega)).trans hP9)
          have HBA : Hid (Below w.heap.size w we) := Lib.hid (by rw [hwe]; exact HB9.out.setCell (by show w.heap.size ≤ w.heap.size + 1; omega) _)
          clear hoth hM9 hP9 hm10 HM9 HA9 HO9 HP9
          go_upto_region 11 with fail
          rw [← hwe]
          clear hwe m00 mf0 p00
          have hAA := HAA.out
          have hMA := HMA.out
          have hPA := HPA.out
          have a0 := obj_cell hAA 0
          have a1 := obj_cell hAA 1
          have a2 := obj_cell hAA 2
          have m00 := obj_cell hMA 0
          have p00 := obj_cell hPA 0
          have m01 := obj_cell hMA 1
          have p01 := obj_cell hPA 1
          have m02 := obj_cell hMA 2
          have p02 := obj_cell hPA 2
          have m03 := obj_cell hMA 3
          have p03 := obj_cell hPA 3
          have m04 := obj_cell hMA 4
          have p04 := obj_cell hPA 4
          have m05 := obj_cell hMA 5
          have p05 := obj_cell hPA 5
          have m06 := obj_cell hMA 6
          have p06 := obj_cell hPA 6
          simp at a0 a1 a2 m00 m01 m02 m03 m04 m05 m06 p00 p01 p02 p03 p04 p05 p06
          clear hAA hMA hPA HPA
          go_wp2_with fail
          with_reducible refine Calls.mono (HFA.out (by first | rfl | trivial) _ HBA.out) ?_
          rintro e xb ⟨rfl, bb⟩
          have HBB : Hid (Below w.heap.size w xb) := Lib.hid (HBA.out.trans (bb.mono HBA.out.size))
          have HAB := Lib.hid (obj_below HAA.out bb)
          have HMB := Lib.hid (obj_below HMA.out bb)
          have HOB := Lib.hid (obj_below HOA.out bb)
          clear bb a0 a1 a2 m00 m01 m02 m03 m04 m05 m06 p00 p01 p02 p03 p04 p05 p06 HAA HMA HOA HBA
          by_cases hf0 : f = 0
          · subst hf0
            obtain rfl : res = 0 := HRES.out
            have hv := HVA.out rfl
            rw [HNU.out] at hv
            have HV := Lib.hid hv
            have hAB := HAB.out
            have a0 := obj_cell hAB 0
            have a1 := obj_cell hAB 1
            have a2 := obj_cell hAB 2
            simp at a0 a1 a2
            clear hAB hv HVN HVA HRES
            go_wp2_with fail
            with_reducible refine Calls.mono (HCP.out _ HBB.out) ?_
            rintro e xc ⟨x', y', z', rfl, bc, os, oh, om⟩
            obtain ⟨n0, hn0⟩ : ∃ n, n = xb.heap.size := ⟨_, rfl⟩
            rw [← hn0] at os oh om
            have HN0 : Hid (w.heap.size + 2 < n0) := Lib.hid (by rw [hn0]; exact obj_lt HOB.out)
            have HBC : Hid (Below w.heap.size w xc) := Lib.hid (HBB.out.trans (bc.mono HBB.out.size))
            have HNC : Hid (n0 ≤ xc.heap.size) := Lib.hid (by rw [hn0]; exact bc.size)
            have HAC := Lib.hid (obj_below HAB.out bc)
            have HMC := Lib.hid (obj_below HMB.out bc)
            have HOC := Lib.hid (obj_below HOB.out bc)
            obtain ⟨nS, hnS⟩ : ∃ n, n = r.secs.length := ⟨_, rfl⟩
            obtain ⟨nH, hnH⟩ : ∃ n, n = r.hs.length := ⟨_, rfl⟩
            obtain ⟨kS, hkS⟩ : ∃ k, k = cellsL Sec.cells r.secs := ⟨_, rfl⟩
            obtain ⟨kH, hkH⟩ : ∃ k, k = cellsL hldC r.hs := ⟨_, rfl⟩
            obtain ⟨kM, hkM⟩ : ∃ k, k = cellsL mvC r.ms := ⟨_, rfl⟩
            rw [← hnS, ← hkS] at os
            rw [← hnH, ← hkH] at oh
            rw [← HNM.out, ← hkM] at om
            obtain ⟨aU, cU, rfl, -, -⟩ := owns_gen os
            obtain ⟨aH, cH, rfl, -, -⟩ := owns_gen oh
            obtain ⟨aL, cL, rfl, -, -⟩ := owns_gen om
            obtain ⟨W5, hW5⟩ : ∃ W5, W5 = put3 xc w.heap.size (.slice aU nS cU) (.slice aH nH cH) (.slice aL nM cL) := ⟨_, rfl⟩
            have HA5 : Hid (W5.heap[w.heap.size]? = some (.cells #[.slice aU nS cU, .slice aH nH cH, .slice aL nM cL] 29 (0, 0))) := Lib.hid (by rw [hW5]; exact put3_at HAC.out rfl _ _ _)
            have hg5 := put3_grown xc w.heap.size (.slice aU nS cU) (.slice aH nH cH) (.slice aL nM cL)
            have HM5 : Hid (W5.heap[w.heap.size + 1]? = some (.cells #[.int .i64 ((nM : Int) + 1), .int .i64 m1, .int .i64 m2, .int .i64 m3, .int .i64 m4, .int .i64 m5, .int .i64 m6] 36 (0, 0))) := Lib.hid (by rw [hW5]; exact (hg5.block _ (obj_lt HMC.out) (by simp)).trans HMC.out)
            have HO5 : Hid (W5.heap[w.heap.size + 2]? = some (.cells #[.slice none 0 0, .slice none 0 0, .slice none 0 0] 29 (0, 0))) := Lib.hid (by rw [hW5]; exact (hg5.block _ (obj_lt HOC.out) (by simp)).trans HOC.out)
            have HB5 : Hid (Below w.heap.size w W5) := Lib.hid (by rw [hW5]; exact put3_below HBC.out (Nat.le_refl _) _ _ _)
            have HS5 : Hid (W5.ownsRow n0 34 7 (.slice aU nS cU) nS kS) := Lib.hid (by rw [hW5]; exact owns_put3 os (by have := HN0.out; omega) _ _ _)
            have HH5 : Hid (W5.ownsRow n0 51 3 (.slice aH nH cH) nH kH) := Lib.hid (by rw [hW5]; exact owns_put3 oh (by have := HN0.out; omega) _ _ _)
            have HL5 : Hid (W5.ownsRow n0 36 7 (.slice aL nM cL) nM kM) := Lib.hid (by rw [hW5]; exact owns_put3 om (by have := HN0.out; omega) _ _ _)
            have HN5 : Hid (n0 ≤ W5.heap.size) := Lib.hid (by rw [hW5]; exact Nat.le_trans HNC.out hg5.size)
            have hAC := HAC.out
            have c0 := obj_cell hAC 0
            have c1 := obj_cell hAC 1
            have c2 := obj_cell hAC 2
            have f0 := obj_free hAC 0
            have f1 := obj_free hAC 1
            have f2 := obj_free hAC 2
            simp at c0 c1 c2
            have HKN := Lib.hid (⟨hnS, hnH, hkS, hkH, hkM⟩ : nS = r.secs.length ∧ nH = r.hs.length ∧ kS = cellsL Sec.cells r.secs ∧ kH = cellsL hldC r.hs ∧ kM = cellsL mvC r.ms)
            clear hAC hg5 os oh om bc hnS hnH hkS hkH hkM hn0
            go_upto_region 15 with fail
            unfold put3 at hW5
            rw [← hW5]
            clear hW5 a0 a1 a2 c0 c1 c2 f0 f1 f2 HAC HMC HOC HBC HNC HAB HMB HOB HBB HFA HCP
            obtain ⟨nV, hnV⟩ : ∃ n, n = (carryM r.hs ⟨(nM : Int) + 1, m1, m2, m3, m4, m5, m6⟩).length := ⟨_, rfl⟩
            obtain ⟨kV, hkV⟩ : ∃ k, k = cellsL hldC (carryM r.hs ⟨(nM : Int) + 1, m1, m2, m3, m4, m5, m6⟩) := ⟨_, rfl⟩
            obtain ⟨kT, hkT⟩ : ∃ k, k = kM ++ (#[.int .i64 ((nM : Int) + 1), .int .i64 m1, .int .i64 m2, .int .i64 m3, .int .i64 m4, .int .i64 m5, .int .i64 m6] : Array Value).toList := ⟨_, rfl⟩
            have HKT := Lib.hid hkT
            have HKV := Lib.hid (⟨hnV, hkV⟩ : nV = (carryM r.hs ⟨(nM : Int) + 1, m1, m2, m3, m4, m5, m6⟩).length ∧ kV = cellsL hldC (carryM r.hs ⟨(nM : Int) + 1, m1, m2, m3, m4, m5, m6⟩))
            clear hkT hnV hkV
            have HCA2 : Hid (∀ W, n0 ≤ W.heap.size → W.ownsRow n0 51 3 (.slice aH nH cH) nH kH → Calls Try.prog 63 #[.slice aH nH cH, .agg #[.int .i64 ((nM : Int) + 1), .int .i64 m1, .int .i64 m2, .int .i64 m3, .int .i64 m4, .int .i64 m5, .int .i64 m6]] W fun e w' => ∃ v', e = .returned v' ∧ RowTo n0 51 3 W (.slice aH nH cH) w' v' nV kV) := Lib.hid fun W h1 h2 => by
              rw [HKV.out.1, HKV.out.2]
              exact HCA.out (by first | rfl | trivial) (by first | rfl | trivial) n0 W _ h1 (by rw [← HKN.out.2.1, ← HKN.out.2.2.2.1]; exact h2)
            obtain ⟨iM, hiM, hzM, hsM, hbM⟩ := info_parts Try.infoClnMv
            have HCE : Hid (∀ W, Below n0 W5 W → (∀ i, W.cell? ⟨w.heap.size, i, none⟩ = #[.slice aU nS cU, .slice aH nH cH, .slice aL nM cL][i]?) ∧ (∀ i, W.frozen? ⟨w.heap.size, i, none⟩ = false) ∧ (∀ i, W.cell? ⟨w.heap.size + 1, i, none⟩ = #[.int .i64 ((nM : Int) + 1), .int .i64 m1, .int .i64 m2, .int .i64 m3, .int .i64 m4, .int .i64 m5, .int .i64 m6][i]?)) := Lib.hid fun W hW => by
              have h1 := (hW.block w.heap.size (by have := HN0.out; omega)).trans HA5.out
              have h2 := (hW.block (w.heap.size + 1) (by have := HN0.out; omega)).trans HM5.out
              exact ⟨obj_cell h1, obj_free h1, obj_cell h2⟩
            have HLB : Hid (∀ g, (Value.slice aL nM cL).ownBlock = some g → g < W5.heap.size) := Lib.hid fun g hg => (HL5.out.lt g hg).2
            have egC := enters_of Try.func63 (by kernel_rfl) rfl
            obtain ⟨P, hP⟩ : ∃ P : Nat → Value → World → Prop, P = fun j v W => match j with
              | 0 => v = .pointer (some ⟨w.heap.size, 1, none⟩) | 1 => v = .slice aH nH cH | 2 => v = .agg #[.int .i64 ((nM : Int) + 1), .int .i64 m1, .int .i64 m2, .int .i64 m3, .int .i64 m4, .int .i64 m5, .int .i64 m6] | 3 => ∃ aV cV, v = .slice aV nV cV ∧ W.ownsRow n0 51 3 (.slice aV nV cV) nV kV
              | 4 => v = .pointer (some ⟨w.heap.size, 2, none⟩) | 5 => v = .slice aL nM cL | 6 => v = .agg #[.int .i64 ((nM : Int) + 1), .int .i64 m1, .int .i64 m2, .int .i64 m3, .int .i64 m4, .int .i64 m5, .int .i64 m6] | 7 => ∃ b, W5.heap.size ≤ b ∧ v = .slice (some ⟨b, 0, none⟩) 1 1 ∧ W.heap[b]? = some (.cells #[.int .i64 ((nM : Int) + 1), .int .i64 m1, .int .i64 m2, .int .i64 m3, .int .i64 m4, .int .i64 m5, .int .i64 m6] 36 (0, 0))
              | 8 => ∃ aT cT, v = .slice aT (nM + 1) cT ∧ W.ownsRow n0 36 7 (.slice aT (nM + 1) cT) (nM + 1) kT | 9 => v = .pointer (some ⟨w.heap.size, 1, none⟩) | _ => True := ⟨_, rfl⟩
            have HPI0 : Hid (∀ v W, P 0 v W ↔ (v = .pointer (some ⟨w.heap.size, 1, none⟩))) := Lib.hid fun v W => by rw [hP] <;> exact Iff.rfl
            have HPI1 : Hid (∀ v W, P 1 v W ↔ (v = .slice aH nH cH)) := Lib.hid fun v W => by rw [hP] <;> exact Iff.rfl
            have HPI2 : Hid (∀ v W, P 2 v W ↔ (v = .agg #[.int .i64 ((nM : Int) + 1), .int .i64 m1, .int .i64 m2, .int .i64 m3, .int .i64 m4, .int .i64 m5, .int .i64 m6])) := Lib.hid fun v W => by rw [hP] <;> exact Iff.rfl
            have HPI3 : Hid (∀ v W, P 3 v W ↔ (∃ aV cV, v = .slice aV nV cV ∧ W.ownsRow n0 51 3 (.slice aV nV cV) nV kV)) := Lib.hid fun v W => by rw [hP] <;> exact Iff.rfl
            have HPI4 : Hid (∀ v W, P 4 v W ↔ (v = .pointer (some ⟨w.heap.size, 2, none⟩))) := Lib.hid fun v W => by rw [hP] <;> exact Iff.rfl
            have HPI5 : Hid (∀ v W, P 5 v W ↔ (v = .slice aL nM cL)) := Lib.hid fun v W => by rw [hP] <;> exact Iff.rfl
            have HPI6 : Hid (∀ v W, P 6 v W ↔ (v = .agg #[.int .i64 ((nM : Int) + 1), .int .i64 m1, .int .i64 m2, .int .i64 m3, .int .i64 m4, .int .i64 m5, .int .i64 m6])) := Lib.hid fun v W => by rw [hP] <;> exact Iff.rfl
            have HPI7 : Hid (∀ v W, P 7 v W ↔ (∃ b, W5.heap.size ≤ b ∧ v = .slice (some ⟨b, 0, none⟩) 1 1 ∧ W.heap[b]? = some (.cells #[.int .i64 ((nM : Int) + 1), .int .i64 m1, .int .i64 m2, .int .i64 m3, .int .i64 m4, .int .i64 m5, .int .i64 m6] 36 (0, 0)))) := Lib.hid fun v W => by rw [hP] <;> exact Iff.rfl
            have HPI8 : Hid (∀ v W, P 8 v W ↔ (∃ aT cT, v = .slice aT (nM + 1) cT ∧ W.ownsRow n0 36 7 (.slice aT (nM + 1) cT) (nM + 1) kT)) := Lib.hid fun v W => by rw [hP] <;> exact Iff.rfl
            have HPI9 : Hid (∀ v W, P 9 v W ↔ (v = .pointer (some ⟨w.heap.size, 1, none⟩))) := Lib.hid fun v W => by rw [hP] <;> exact Iff.rfl
            have HKB : Hid (∀ (j : Nat) v W W', Below W.heap.size W W' → P j v W → P j v W') := Lib.hid (by
              rw [hP]
              intro j v W W' hb h
              match j, h with
              | 0, h => exact h
              | 1, h => exact h
              | 2, h => exact h
              | 3, h => obtain ⟨aV, cV, e, q⟩ := h; exact ⟨aV, cV, e, ownsRow_below q hb⟩
              | 4, h => exact h
              | 5, h => exact h
              | 6, h => exact h
              | 7, h => obtain ⟨b, e1, e2, q⟩ := h; exact ⟨b, e1, e2, obj_below q hb⟩
              | 8, h => obtain ⟨aT, cT, e, q⟩ := h; exact ⟨aT, cT, e, ownsRow_below q hb⟩
              | 9, h => exact h
              | j + 10, _ => trivial)
            have HKC : Hid (∀ (j : Nat) v W W', j ≠ 3 → W.ownsRow n0 51 3 (.slice aH nH cH) nH kH → W.grownBy W' (Value.slice aH nH cH).ownBlock → P j v W → P j v W') := Lib.hid (by
              rw [hP]
              intro j v W W' hj ho hg h
              match j, hj, h with
              | 0, hj, h => exact h
              | 1, hj, h => exact h
              | 2, hj, h => exact h
              | 3, hj, h => exact absurd rfl hj
              | 4, hj, h => exact h
              | 5, hj, h => exact h
              | 6, hj, h => exact h
              | 7, hj, h => obtain ⟨b, e1, e2, q⟩ := h; exact ⟨b, e1, e2, obj_apart q ho (by decide) hg⟩
              | 8, hj, h => obtain ⟨aT, cT, e, q⟩ := h; exact ⟨aT, cT, e, owns_apart q ho (by decide) hg⟩
              | 9, hj, h => exact h
              | j + 10, _, _ => trivial)
            have HKL : Hid (∀ (j : Nat) v W W', j ≠ 8 → W.ownsRow n0 36 7 (.slice aL nM cL) nM kM → W.grownBy W' (Value.slice aL nM cL).ownBlock → P j v W → P j v W') := Lib.hid (by
              rw [hP]
              intro j v W W' hj ho hg h
              match j, hj, h with
              | 0, hj, h => exact h
              | 1, hj, h => exact h
              | 2, hj, h => exact h
              | 3, hj, h => obtain ⟨aV, cV, e, q⟩ := h; exact ⟨aV, cV, e, owns_apart q ho (by decide) hg⟩
              | 4, hj, h => exact h
              | 5, hj, h => exact h
              | 6, hj, h => exact h
              | 7, hj, h => obtain ⟨b, e1, e2, q⟩ := h; exact ⟨b, e1, e2, (hg.block b (obj_lt q) fun e => by have := HLB.out b e.symm; omega).trans q⟩
              | 8, hj, h => exact absurd rfl hj
              | 9, hj, h => exact h
              | j + 10, _, _ => trivial)
            clear hP
            go_cut [] (fun wx => ∃ aV cV aT cT W0, Hid ((Below n0 W5 W0 ∧ W0.ownsRow n0 34 7 (.slice aU nS cU) nS kS ∧ W0.ownsRow n0 51 3 (.slice aV nV cV) nV kV ∧ W0.ownsRow n0 36 7 (.slice aT (nM + 1) cT) (nM + 1) kT) ∧ wx = (W0.setCell ⟨w.heap.size, 1, none⟩ (.slice aV nV cV)).setCell ⟨w.heap.size, 2, none⟩ (.slice aT (nM + 1) cT)))
            case first =>
              refine wp_region_tail2 [49, 50, 51, 52, 53, 54, 55, 56, 57, 58, 59] (slotS [49, 50, 51, 52, 53, 54, 55, 56, 57, 58]) (readsS [49, 50, 51, 52, 53, 54, 55, 56, 57, 58]) (RP [49, 50, 51, 52, 53, 54, 55, 56, 57, 58] P) (fun b c W => Below n0 W5 W ∧ W.ownsRow n0 34 7 (.slice aU nS cU) nS kS ∧ (b = false → W.ownsRow n0 51 3 (.slice aH nH cH) nH kH) ∧ (c = false → W.ownsRow n0 36 7 (.slice aL nM cL) nM kM)) 3 8 (fun k f W => ∃ aV cV aT cT, f 52 = .slice aV nV cV ∧ f 57 = .slice aT (nM + 1) cT ∧ f 58 = .pointer (some ⟨w.heap.size, 1, none⟩) ∧ (1 < k → f 59 = .pointer (some ⟨w.heap.size, 2, none⟩)) ∧ ∃ W0, (Below n0 W5 W0 ∧ W0.ownsRow n0 34 7 (.slice aU nS cU) nS kS ∧ W0.ownsRow n0 51 3 (.slice aV nV cV) nV kV ∧ W0.ownsRow n0 36 7 (.slice aT (nM + 1) cT) (nM + 1) kT) ∧ W = (if k = 0 then W0 else if k < 3 then W0.setCell ⟨w.heap.size, 1, none⟩ (.slice aV nV cV) else (W0.setCell ⟨w.heap.size, 1, none⟩ (.slice aV nV cV)).setCell ⟨w.heap.size, 2, none⟩ (.slice aT (nM + 1) cT))) 10 8 (by decide) (by decide) (by decide) (by kernel_rfl) (by kernel_rfl) (by kernel_rfl) (by kernel_rfl) ⟨((Below.refl _ _).mono HN5.out).drew, HS5.out, fun _ => HH5.out, fun _ => HL5.out⟩ (fun j f q v W hq h => RP.upd hq h) ?_ ?_ ?_ ?_
              case refine_1 =>
                intro iq hiq f W bb bc hIW he1 he2 hdep0
                obtain ⟨hBW, hSW, hHW, hLW⟩ := hIW
                have hiq' : iq < 10 := hiq
                have hdep : ∀ j, depB _ iq j = true → P j (f (slotS [49, 50, 51, 52, 53, 54, 55, 56, 57, 58] j)) W := hdep0
                clear hdep0
                obtain ⟨hcA, hfA, hcM⟩ := HCE.out W hBW
                generalize ha1 : putsL _ [49, 50, 51, 52, 53, 54, 55, 56, 57, 58, 59] f = a1
                match iq, hiq', hdep, he1, he2 with
                | 0, _, hdep, he1, he2 =>
                  have E2 : a1.tmps[2]?.getD undef = .pointer (some ⟨w.heap.size, 0, none⟩) := by rw [← ha1]; exact (putsL_out2 _ _ _ _ (by decide)).trans rfl
                  exact wpOp_val rfl rfl (v := .pointer (some ⟨w.heap.size, 1, none⟩)) (w' := W) (by simp [execOp, go_sem, E2]) ⟨⟨hBW, hSW, by simpa using hHW, by simpa using hLW⟩, fun _ _ h => h, _, by decide, rfl, RP.set ((HPI0.out _ _).2 rfl)⟩
                | 1, _, hdep, he1, he2 =>
                  have E49 : a1.tmps[49]?.getD undef = .pointer (some ⟨w.heap.size, 1, none⟩) := by rw [← ha1]; exact (putsL_in2 _ _ _ _ (by decide) (show 49 < 61 from by decide)).trans ((HPI0.out _ _).1 (hdep 0 (by kernel_rfl)))
                  have v1 : W.cell? ⟨w.heap.size, 1, none⟩ = some (.slice aH nH cH) := by simpa using hcA 1
                  exact wpOp_val rfl rfl (v := .slice aH nH cH) (w' := W) (by simp [execOp, go_sem, E49, v1]) ⟨⟨hBW, hSW, by simpa using hHW, by simpa using hLW⟩, fun _ _ h => h, _, by decide, rfl, RP.set ((HPI1.out _ _).2 rfl)⟩
                | 2, _, hdep, he1, he2 =>
                  have E3 : a1.tmps[3]?.getD undef = .pointer (some ⟨w.heap.size + 1, 0, none⟩) := by rw [← ha1]; exact (putsL_out2 _ _ _ _ (by decide)).trans rfl
                  have v0 : W.cell? ⟨w.heap.size + 1, 0, none⟩ = some (.int .i64 ((nM : Int) + 1)) := by simpa using hcM 0
                  have v1 : W.cell? ⟨w.heap.size + 1, 1, none⟩ = some (.int .i64 m1) := by simpa using hcM 1
                  have v2 : W.cell? ⟨w.heap.size + 1, 2, none⟩ = some (.int .i64 m2) := by simpa using hcM 2
                  have v3 : W.cell? ⟨w.heap.size + 1, 3, none⟩ = some (.int .i64 m3) := by simpa using hcM 3
                  have v4 : W.cell? ⟨w.heap.size + 1, 4, none⟩ = some (.int .i64 m4) := by simpa using hcM 4
                  have v5 : W.cell? ⟨w.heap.size + 1, 5, none⟩ = some (.int .i64 m5) := by simpa using hcM 5
                  have v6 : W.cell? ⟨w.heap.size + 1, 6, none⟩ = some (.int .i64 m6) := by simpa using hcM 6
                  exact wpOp_val rfl rfl (v := .agg #[.int .i64 ((nM : Int) + 1), .int .i64 m1, .int .i64 m2, .int .i64 m3, .int .i64 m4, .int .i64 m5, .int .i64 m6]) (w' := W) (by simp [execOp, go_sem, E3, v0, v1, v2, v3, v4, v5, v6]) ⟨⟨hBW, hSW, by simpa using hHW, by simpa using hLW⟩, fun _ _ h => h, _, by decide, rfl, RP.set ((HPI2.out _ _).2 rfl)⟩
                | 3, _, hdep, he1, he2 =>
                  have hbf := he1 rfl
                  subst hbf
                  have E50 : a1.tmps[50]?.getD undef = .slice aH nH cH := by rw [← ha1]; exact (putsL_in2 _ _ _ _ (by decide) (show 50 < 61 from by decide)).trans ((HPI1.out _ _).1 (hdep 1 (by kernel_rfl)))
                  have E51 : a1.tmps[51]?.getD undef = .agg #[.int .i64 ((nM : Int) + 1), .int .i64 m1, .int .i64 m2, .int .i64 m3, .int .i64 m4, .int .i64 m5, .int .i64 m6] := by rw [← ha1]; exact (putsL_in2 _ _ _ _ (by decide) (show 51 < 61 from by decide)).trans ((HPI2.out _ _).1 (hdep 2 (by kernel_rfl)))
                  have hoH := hHW rfl
                  refine wpOp_call rfl rfl (n := 63) (vs := #[.slice aH nH cH, .agg #[.int .i64 ((nM : Int) + 1), .int .i64 m1, .int .i64 m2, .int .i64 m3, .int .i64 m4, .int .i64 m5, .int .i64 m6]]) (by have := egC #[.slice aH nH cH, .agg #[.int .i64 ((nM : Int) + 1), .int .i64 m1, .int .i64 m2, .int .i64 m3, .int .i64 m4, .int .i64 m5, .int .i64 m6]] W; simp [execOp, E50, E51, resolve, invoke, go_sem] <;> exact this) ((HCA2.out W (Nat.le_trans HN5.out hBW.size) hoH).mono fun e w' hh => (by obtain ⟨v', rfl, hr⟩ := hh; exact ⟨_, rfl, hr⟩ : ∃ v, e = .returned v ∧ RowTo n0 51 3 W (.slice aH nH cH) w' v nV kV)) ?_
                  rintro v w' hr
                  obtain ⟨aV, cV, rfl, -, -⟩ := owns_gen hr.owns
                  exact ⟨⟨hBW.trans (hr.belowB hoH (Nat.le_trans HN5.out hBW.size)), owns_apart hSW hoH (by decide) hr.grown, by simp, fun h => owns_apart (hLW (by simpa using h)) hoH (by decide) hr.grown⟩, fun j hj h => HKC.out j _ _ _ hj hoH hr.grown h, _, by decide, rfl, RP.set ((HPI3.out _ _).2 ⟨_, _, rfl, hr.owns⟩)⟩
                | 4, _, hdep, he1, he2 =>
                  have E2 : a1.tmps[2]?.getD undef = .pointer (some ⟨w.heap.size, 0, none⟩) := by rw [← ha1]; exact (putsL_out2 _ _ _ _ (by decide)).trans rfl
                  exact wpOp_val rfl rfl (v := .pointer (some ⟨w.heap.size, 2, none⟩)) (w' := W) (by simp [execOp, go_sem, E2]) ⟨⟨hBW, hSW, by simpa using hHW, by simpa using hLW⟩, fun _ _ h => h, _, by decide, rfl, RP.set ((HPI4.out _ _).2 rfl)⟩
                | 5, _, hdep, he1, he2 =>
                  have E53 : a1.tmps[53]?.getD undef = .pointer (some ⟨w.heap.size, 2, none⟩) := by rw [← ha1]; exact (putsL_in2 _ _ _ _ (by decide) (show 53 < 61 from by decide)).trans ((HPI4.out _ _).1 (hdep 4 (by kernel_rfl)))
                  have v2 : W.cell? ⟨w.heap.size, 2, none⟩ = some (.slice aL nM cL) := by simpa using hcA 2
                  exact wpOp_val rfl rfl (v := .slice aL nM cL) (w' := W) (by simp [execOp, go_sem, E53, v2]) ⟨⟨hBW, hSW, by simpa using hHW, by simpa using hLW⟩, fun _ _ h => h, _, by decide, rfl, RP.set ((HPI5.out _ _).2 rfl)⟩
                | 6, _, hdep, he1, he2 =>
                  have E3 : a1.tmps[3]?.getD undef = .pointer (some ⟨w.heap.size + 1, 0, none⟩) := by rw [← ha1]; exact (putsL_out2 _ _ _ _ (by decide)).trans rfl
                  have v0 : W.cell? ⟨w.heap.size + 1, 0, none⟩ = some (.int .i64 ((nM : Int) + 1)) := by simpa using hcM 0
                  have v1 : W.cell? ⟨w.heap.size + 1, 1, none⟩ = some (.int .i64 m1) := by simpa using hcM 1
                  have v2 : W.cell? ⟨w.heap.size + 1, 2, none⟩ = some (.int .i64 m2) := by simpa using hcM 2
                  have v3 : W.cell? ⟨w.heap.size + 1, 3, none⟩ = some (.int .i64 m3) := by simpa using hcM 3
                  have v4 : W.cell? ⟨w.heap.size + 1, 4, none⟩ = some (.int .i64 m4) := by simpa using hcM 4
                  have v5 : W.cell? ⟨w.heap.size + 1, 5, none⟩ = some (.int .i64 m5) := by simpa using hcM 5
                  have v6 : W.cell? ⟨w.heap.size + 1, 6, none⟩ = some (.int .i64 m6) := by simpa using hcM 6
                  exact wpOp_val rfl rfl (v := .agg #[.int .i64 ((nM : Int) + 1), .int .i64 m1, .int .i64 m2, .int .i64 m3, .int .i64 m4, .int .i64 m5, .int .i64 m6]) (w' := W) (by simp [execOp, go_sem, E3, v0, v1, v2, v3, v4, v5, v6]) ⟨⟨hBW, hSW, by simpa using hHW, by simpa using hLW⟩, fun _ _ h => h, _, by decide, rfl, RP.set ((HPI6.out _ _).2 rfl)⟩
                | 7, _, hdep, he1, he2 =>
                  have E55 : a1.tmps[55]?.getD undef = .agg #[.int .i64 ((nM : Int) + 1), .int .i64 m1, .int .i64 m2, .int .i64 m3, .int .i64 m4, .int .i64 m5, .int .i64 m6] := by rw [← ha1]; exact (putsL_in2 _ _ _ _ (by decide) (show 55 < 61 from by decide)).trans ((HPI6.out _ _).1 (hdep 6 (by kernel_rfl)))
                  have hal := below_alloc W (.cells #[.int .i64 ((nM : Int) + 1), .int .i64 m1, .int .i64 m2, .int .i64 m3, .int .i64 m4, .int .i64 m5, .int .i64 m6] 36)
                  exact wpOp_val rfl rfl (v := .slice (some ⟨W.heap.size, 0, none⟩) 1 1) (w' := W.alloc (.cells #[.int .i64 ((nM : Int) + 1), .int .i64 m1, .int .i64 m2, .int .i64 m3, .int .i64 m4, .int .i64 m5, .int .i64 m6] 36)) (by simp [execOp, go_sem, E55]) ⟨⟨hBW.alloc (Nat.le_trans HN5.out hBW.size) _, ownsRow_below hSW hal, fun h => ownsRow_below (hHW (by simpa using h)) hal, fun h => ownsRow_below (hLW (by simpa using h)) hal⟩, fun j _ h => HKB.out j _ _ _ hal h, _, by decide, rfl, RP.set ((HPI7.out _ _).2 ⟨W.heap.size, hBW.size, rfl, heap_alloc_new W _⟩)⟩
                | 8, _, hdep, he1, he2 =>
                  have hbf := he2 rfl
                  subst hbf
                  have E54 : a1.tmps[54]?.getD undef = .slice aL nM cL := by rw [← ha1]; exact (putsL_in2 _ _ _ _ (by decide) (show 54 < 61 from by decide)).trans ((HPI5.out _ _).1 (hdep 5 (by kernel_rfl)))
                  obtain ⟨bN, hbN, q56, hcN⟩ := (HPI7.out _ _).1 (hdep 7 (by kernel_rfl))
                  have E56 : a1.tmps[56]?.getD undef = .slice (some ⟨bN, 0, none⟩) 1 1 := by rw [← ha1]; exact (putsL_in2 _ _ _ _ (by decide) (show 56 < 61 from by decide)).trans q56
                  have hoL := hLW rfl
                  refine wpOp_append rfl rfl (.tmp 54) (.tmp 56) 27 rfl n0 36 iM _ 7 56 (by kernel_rfl) hiM hzM hsM hbM rfl (by decide) (.slice aL nM cL) nM kM (by simpa [Act.eval] using E54) hoL ⟨bN, 0, none⟩ 1 1 (#[.int .i64 ((nM : Int) + 1), .int .i64 m1, .int .i64 m2, .int .i64 m3, .int .i64 m4, .int .i64 m5, .int .i64 m6] : Array Value).toList (by simpa [Act.eval] using E56) rfl (fun j u hj => by rw [Addr.add_lit, Nat.zero_add, cell_of_row W bN _ _ _ (0, 0) hcN]; simpa using hj) (by intro u hu; simp at hu; rcases hu with rfl | rfl | rfl | rfl | rfl | rfl | rfl <;> rfl) (by unfold maxLen; omega) (by omega) (Nat.le_trans HN5.out hBW.size) ?_
                  rintro v w' ho hg
                  obtain ⟨aT, cT, rfl, -, -⟩ := owns_gen ho
                  have hBn : Below n0 W w' := ⟨hg.os, hg.tape, hg.output, hg.size, fun k hk => hg.block k (Nat.lt_of_lt_of_le hk (Nat.le_trans HN5.out hBW.size)) fun e => by have := (hoL.lt k e.symm).1; omega⟩
                  have hSL : w'.ownsRow n0 34 7 (.slice aU nS cU) nS kS := owns_apart hSW hoL (by decide) hg
                  exact ⟨⟨hBW.trans hBn, hSL, fun h => owns_apart (hHW (by simpa using h)) hoL (by decide) hg, by simp⟩, fun j hj h => HKL.out j _ _ _ hj hoL hg h, _, by decide, rfl, RP.set ((HPI8.out _ _).2 ⟨_, _, rfl, by rw [HKT.out]; exact ho⟩)⟩
                | 9, _, hdep, he1, he2 =>
                  have E2 : a1.tmps[2]?.getD undef = .pointer (some ⟨w.heap.size, 0, none⟩) := by rw [← ha1]; exact (putsL_out2 _ _ _ _ (by decide)).trans rfl
                  exact wpOp_val rfl rfl (v := .pointer (some ⟨w.heap.size, 1, none⟩)) (w' := W) (by simp [execOp, go_sem, E2]) ⟨⟨hBW, hSW, by simpa using hHW, by simpa using hLW⟩, fun _ _ h => h, _, by decide, rfl, RP.set ((HPI9.out _ _).2 rfl)⟩
                | iq + 10, h, _, _, _ => exact absurd h (by omega)
              case refine_2 =>
                intro f W hIW hR
                obtain ⟨hBW, hSW, -, -⟩ := hIW
                obtain ⟨aV, cV, e52, o52⟩ := (HPI3.out _ _).1 (hR 3 (by decide))
                obtain ⟨aT, cT, e57, o57⟩ := (HPI8.out _ _).1 (hR 8 (by decide))
                exact ⟨aV, cV, aT, cT, e52, e57, (HPI9.out _ _).1 (hR 9 (by decide)), fun h => absurd h (by decide), W, ⟨hBW, hSW, o52, o57⟩, rfl⟩
              case refine_3 =>
                intro iq hs10 hiq f W hIt
                have hiq' : iq < 13 := hiq
                obtain ⟨aV, cV, aT, cT, e52, e57, e58, e59, W0, ⟨hBW, hSW, hVW, hTW⟩, hWe⟩ := hIt
                obtain ⟨hcA, hfA, -⟩ := HCE.out W0 hBW
                generalize ha1 : putsL _ [49, 50, 51, 52, 53, 54, 55, 56, 57, 58, 59] f = a1
                have E52 : a1.tmps[52]?.getD undef = .slice aV nV cV := by rw [← ha1]; exact (putsL_in2 _ _ _ _ (by decide) (show 52 < 61 from by decide)).trans e52
                have E57 : a1.tmps[57]?.getD undef = .slice aT (nM + 1) cT := by rw [← ha1]; exact (putsL_in2 _ _ _ _ (by decide) (show 57 < 61 from by decide)).trans e57
                have E58 : a1.tmps[58]?.getD undef = .pointer (some ⟨w.heap.size, 1, none⟩) := by rw [← ha1]; exact (putsL_in2 _ _ _ _ (by decide) (show 58 < 61 from by decide)).trans e58
                have E2 : a1.tmps[2]?.getD undef = .pointer (some ⟨w.heap.size, 0, none⟩) := by rw [← ha1]; exact (putsL_out2 _ _ _ _ (by decide)).trans rfl
                have v1 : W0.cell? ⟨w.heap.size, 1, none⟩ = some (.slice aH nH cH) := by simpa using hcA 1
                have v2 : W0.cell? ⟨w.heap.size, 2, none⟩ = some (.slice aL nM cL) := by simpa using hcA 2
                have f1 := hfA 1
                have f2 := hfA 2
                match iq, hs10, hiq' with
                | 10, _, _ =>
                  obtain rfl : W = W0 := hWe
                  exact wpOp_skip rfl rfl (w' := W.setCell ⟨w.heap.size, 1, none⟩ (.slice aV nV cV)) (by simp [execOp, go_sem, E58, E52, v1, f1]) ⟨f, ha1.symm, aV, cV, aT, cT, e52, e57, e58, fun h => absurd h (by decide), W, ⟨hBW, hSW, hVW, hTW⟩, rfl⟩
                | 11, _, _ =>
                  exact wpOp_val rfl rfl (v := .pointer (some ⟨w.heap.size, 2, none⟩)) (w' := W) (by simp [execOp, go_sem, E2]) ⟨updF f 59 (.pointer (some ⟨w.heap.size, 2, none⟩)), by rw [← ha1]; exact putsL_put _ _ _ _ _ (by decide), aV, cV, aT, cT, (updF_other f _ (by decide)).trans e52, (updF_other f _ (by decide)).trans e57, (updF_other f _ (by decide)).trans e58, fun _ => updF_same _ _ _, W0, ⟨hBW, hSW, hVW, hTW⟩, hWe⟩
                | 12, _, _ =>
                  have E59 : a1.tmps[59]?.getD undef = .pointer (some ⟨w.heap.size, 2, none⟩) := by rw [← ha1]; exact (putsL_in2 _ _ _ _ (by decide) (show 59 < 61 from by decide)).trans (e59 (by decide))
                  obtain rfl : W = W0.setCell ⟨w.heap.size, 1, none⟩ (.slice aV nV cV) := hWe
                  exact wpOp_skip rfl rfl (w' := (W0.setCell ⟨w.heap.size, 1, none⟩ (.slice aV nV cV)).setCell ⟨w.heap.size, 2, none⟩ (.slice aT (nM + 1) cT)) (by simp [execOp, go_sem, E59, E57, v2, f2]) ⟨f, ha1.symm, aV, cV, aT, cT, e52, e57, e58, fun _ => e59 (by decide), W0, ⟨hBW, hSW, hVW, hTW⟩, rfl⟩
                | iq + 13, _, h => exact absurd h (by omega)
              case refine_4 =>
                intro f W hIt
                obtain ⟨aV, cV, aT, cT, -, -, -, -, W0, hF, hWe⟩ := hIt
                have hWe2 : W = (W0.setCell ⟨w.heap.size, 1, none⟩ (.slice aV nV cV)).setCell ⟨w.heap.size, 2, none⟩ (.slice aT (nM + 1) cT) := hWe
                have HWE2 := Lib.hid hWe2
                clear hWe hWe2
                simp only [putsL, List.foldl_cons, List.foldl_nil, Act.put, List.setIfInBounds_toArray, List.set_cons_zero, List.set_cons_succ]
                go_wp2
                go_meet
                exact ⟨aV, cV, aT, cT, W0, Lib.hid ⟨hF, HWE2.out⟩⟩
            case rest =>
              obtain ⟨aV, cV, aT, cT, W0, HF⟩ := hcut
              have hB0 : Below w.heap.size w W0 := HB5.out.trans (HF.out.1.1.mono (by have := HN0.out; omega))
              have hA0 := (HF.out.1.1.block w.heap.size (by have := HN0.out; omega)).trans HA5.out
              have hO0 := (HF.out.1.1.block (w.heap.size + 2) HN0.out).trans HO5.out
              have hA6 := obj_set (obj_set hA0 1 (.slice aV nV cV)) 2 (.slice aT (nM + 1) cT)
              simp only [List.setIfInBounds_toArray, List.set_cons_zero, List.set_cons_succ] at hA6
              have hoth : ∀ c, c ≠ w.heap.size → wc.heap[c]? = W0.heap[c]? := fun c hc => by
                rw [HF.out.2]
                exact (Below.heap_setCell _ _ _ c hc).trans (Below.heap_setCell _ _ _ c hc)
              rw [← HF.out.2] at hA6
              have HA6 := Lib.hid hA6
              have HO6 : Hid (wc.heap[w.heap.size + 2]? = some (.cells #[.slice none 0 0, .slice none 0 0, .slice none 0 0] 29 (0, 0))) := Lib.hid ((hoth _ (by omega)).trans hO0)
              have HB6 : Hid (Below w.heap.size w wc) := Lib.hid (by
                rw [HF.out.2]
                exact (hB0.setCell (Nat.le_refl _) _).setCell (Nat.le_refl _) _)
              have HS6 : Hid (wc.ownsRow n0 34 7 (.slice aU nS cU) nS kS) := Lib.hid (by rw [HF.out.2]; exact ownsRow_setCell_below (ownsRow_setCell_below HF.out.1.2.1 (by have := HN0.out; show w.heap.size < n0; omega) _) (by have := HN0.out; show w.heap.size < n0; omega) _)
              have HV6 : Hid (wc.ownsRow n0 51 3 (.slice aV nV cV) nV kV) := Lib.hid (by rw [HF.out.2]; exact ownsRow_setCell_below (ownsRow_setCell_below HF.out.1.2.2.1 (by have := HN0.out; show w.heap.size < n0; omega) _) (by have := HN0.out; show w.heap.size < n0; omega) _)
              have HT6 : Hid (wc.ownsRow n0 36 7 (.slice aT (nM + 1) cT) (nM + 1) kT) := Lib.hid (by rw [HF.out.2]; exact ownsRow_setCell_below (ownsRow_setCell_below HF.out.1.2.2.2 (by have := HN0.out; show w.heap.size < n0; omega) _) (by have := HN0.out; show w.heap.size < n0; omega) _)
              have hO6 := HO6.out
              have o0 := obj_cell hO6 0
              have o1 := obj_cell hO6 1
              have o2 := obj_cell hO6 2
              have f0 := obj_free hO6 0
              have f1 := obj_free hO6 1
              have f2 := obj_free hO6 2
              have a0 := obj_cell hA6 0
              have a1 := obj_cell hA6 1
              have a2 := obj_cell hA6 2
              simp at o0 o1 o2 a0 a1 a2
              clear hO6 hA6 hoth hA0 hO0 hB0 HF HCA HCA2 HCE HLB HKB HKC HKL HPI0 HPI1 HPI2 HPI3 HPI4 HPI5 HPI6 HPI7 HPI8 HPI9 HA5 HM5 HO5 HS5 HH5 HL5 HB5
              have HFIN : Hid (∀ W : World, W.ownsRow n0 34 7 (.slice aU nS cU) nS kS → W.ownsRow n0 51 3 (.slice aV nV cV) nV kV → W.ownsRow n0 36 7 (.slice aT (nM + 1) cT) (nM + 1) kT → RegAt W (.slice aU nS cU) (.slice aV nV cV) (.slice aT (nM + 1) cT) vr) := Lib.hid fun W q1 q2 q3 => by
                rw [HV.out]
                rw [HKN.out.1, HKN.out.2.2.1] at q1
                rw [HKV.out.1, HKV.out.2] at q2
                have e3 : kT = cellsL mvC (r.ms ++ [(⟨(nM : Int) + 1, m1, m2, m3, m4, m5, m6⟩ : Mv)]) := by
                  rw [HKT.out, HKN.out.2.2.2.2, ← cellsL_snoc]; rfl
                have e4 : nM + 1 = (r.ms ++ [(⟨(nM : Int) + 1, m1, m2, m3, m4, m5, m6⟩ : Mv)]).length := by rw [List.length_append, ← HNM.out]; rfl
                rw [HKN.out.1, HKV.out.1]
                rw [e3, e4] at q3
                rw [e4]
                exact ⟨ListAt.owns q1, ListAt.owns q2, ListAt.owns q3⟩
              go_wp2
              refine ret3 HO6.out rfl _ _ _ (fun F hF => ?_) rfl ⟨_, _, _, rfl, HFIN.out _ (owns_put3 HS6.out HN0.out _ _ _) (owns_put3 HV6.out HN0.out _ _ _) (owns_put3 HT6.out HN0.out _ _ _), put3_below HB6.out (by omega) _ _ _⟩
              have q0 := obj_cell hF 0
              have q1 := obj_cell hF 1
              have q2 := obj_cell hF 2
              simp [results, Try.results59, go_sem, q0, q1, q2]
          · obtain rfl : res = f := HRES.out
            obtain rfl := HVN.out hf0
            have hbf : (res != 0) = true := by simpa using hf0
            have hOB := HOB.out
            have o0 := obj_cell hOB 0
            have o1 := obj_cell hOB 1
            have o2 := obj_cell hOB 2
            have f0 := obj_free hOB 0
            have f1 := obj_free hOB 1
            have f2 := obj_free hOB 2
            simp at o0 o1 o2
            clear hOB
            go_wp2
            refine ret3 HOB.out rfl _ _ _ (fun F hF => ?_) rfl ⟨_, _, _, rfl, none_at _, put3_below HBB.out (by omega) _ _ _⟩
            have q0 := obj_cell hF 0
            have q1 := obj_cell hF 1
            have q2 := obj_cell hF 2
            simp [results, Try.results59, go_sem, q0, q1, q2]
  · obtain rfl : res = ec := by rw [HRES.out]; exact if_pos hc0
    obtain rfl := HVN.out hc0
    have hbf : (res != 0) = true := by simpa using hc0
    go_wp2
    refine ret3 HO7.out rfl _ _ _ (fun F hF => ?_) rfl ⟨_, _, _, rfl, none_at _, put3_below HB7.out (by omega) _ _ _⟩
    have q0 := obj_cell hF 0
    have q1 := obj_cell hF 1
    have q2 := obj_cell hF 2
    simp [results, Try.results59, go_sem, q0, q1, q2]

end Go.Proofs.Ytnfllgeneehjjaa
