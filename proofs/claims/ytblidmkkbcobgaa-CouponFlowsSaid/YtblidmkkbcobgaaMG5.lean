/- Texts of one claim, merged: RhJ, RhL, RyA, RyB, RyC. -/
import Derived.Test.YtblidmkkbcobgaaMRhH
import Derived.Test.YtblidmkkbcobgaaMRhI
import Derived.Test.YtblidmkkbcobgaaMG4
import Derived.Test.YtblidmkkbcobgaaMEqHld
import Derived.Test.YtblidmkkbcobgaaMRhG
/- register.rightMoves and Check, where the securities are right. -/
set_option linter.unusedSimpArgs false
set_option linter.unusedVariables false
set_option linter.unusedSimpArgs false
set_option linter.unusedVariables false
namespace Go.Proofs.Ytblidmkkbcobgaa
open Go.RowKit Go.Lib Go.Proofs

/-- Whether moves make holdings. -/
def makesB (secs : List Sec) (ms : List Mv) (hs : List Hld) : Bool := decide (replayM secs [] Mv.zero ms = some hs)
theorem replayM_none {secs : List Sec} {ms ns : List Mv} {l : List Hld} {b : Mv} (h : replayM secs l b ms = none) : replayM secs l b (ms ++ ns) = none := by
  rw [replayM_app, h]
theorem makes_stop {secs : List Sec} {ms : List Mv} {hs l : List Hld} {k : Nat} (hk : k < ms.length) (h : replayM secs [] Mv.zero (ms.take k) = some l) (hf : ¬ (ms[k].num = (lastM Mv.zero (ms.take k)).num + 1 ∧ faultM secs l (lastM Mv.zero (ms.take k)).day ms[k] = 0)) : makesB secs ms hs = false := by
  have h1 : replayM secs [] Mv.zero (ms.take (k + 1)) = none := by
    rw [List.take_succ_eq_append_getElem hk, replayM_snoc, h]
    exact if_neg hf
  have h2 := replayM_none (ns := ms.drop (k + 1)) h1
  rw [List.take_append_drop] at h2
  unfold makesB
  rw [h2]
  exact decide_eq_false (by simp)
theorem makes_step {secs : List Sec} {ms : List Mv} {l : List Hld} {k : Nat} (hk : k < ms.length) (h : replayM secs [] Mv.zero (ms.take k) = some l) (h1 : ms[k].num = (lastM Mv.zero (ms.take k)).num + 1) (h2 : faultM secs l (lastM Mv.zero (ms.take k)).day ms[k] = 0) : replayM secs [] Mv.zero (ms.take (k + 1)) = some (carryM l ms[k]) ∧ lastM Mv.zero (ms.take (k + 1)) = ms[k] := by
  rw [List.take_succ_eq_append_getElem hk, replayM_snoc, h, lastM_snoc]
  exact ⟨if_pos ⟨h1, h2⟩, rfl⟩
theorem owns_put7 {W : World} {base : Nat} {e : TypeId} {size : Nat} {v : Value} {n : Nat} {xs : List Value} (h : W.ownsRow base e size v n xs) {b : Nat} (hb : b < base) (v0 v1 v2 v3 v4 v5 v6 : Value) : (put7 W b v0 v1 v2 v3 v4 v5 v6).ownsRow base e size v n xs := by
  unfold put7
  exact ownsRow_setCell_below (ownsRow_setCell_below (ownsRow_setCell_below (ownsRow_setCell_below (ownsRow_setCell_below (ownsRow_setCell_below (ownsRow_setCell_below h hb _) hb _) hb _) hb _) hb _) hb _) hb _
theorem put7_other {W : World} {b c : Nat} (h : c ≠ b) (v0 v1 v2 v3 v4 v5 v6 : Value) : (put7 W b v0 v1 v2 v3 v4 v5 v6).heap[c]? = W.heap[c]? := by
  have e : ∀ (A : World) (j : Nat) (v : Value), (A.setCell ⟨b, j, none⟩ v).heap[c]? = A.heap[c]? := fun A j v => Below.heap_setCell A _ _ c (by show c ≠ b; exact h)
  unfold put7
  rw [e, e, e, e, e, e, e]
theorem put7_size (W : World) (b : Nat) (v0 v1 v2 v3 v4 v5 v6 : Value) : (put7 W b v0 v1 v2 v3 v4 v5 v6).heap.size = W.heap.size := by unfold put7; simp
def put7M (W : World) (b : Nat) (m : Mv) : World := put7 W b (.int .i64 m.num) (.int .i64 m.day) (.int .i64 m.kind) (.int .i64 m.sec) (.int .i64 m.frm) (.int .i64 m.to) (.int .i64 m.amt)

set_option maxRecDepth 100000 in
set_option maxHeartbeats 16000000 in
theorem rxmoves_any (secs : List Sec) (hs : List Hld) (ms : List Mv) (x y z : Value) (w : World) (hok : SecsOk secs) (hx : ListAt Sec.cells 7 w x secs) (hy : ListAt hldC 3 w y hs) (hyl : hs.length ≤ 1000000) (hz : ListAt mvC 7 w z ms) (hml : ms.length ≤ 400) :
    Calls Try.prog 100 #[.agg #[x, y, z]] w fun e w' => e = .returned (.bool (makesB secs ms hs)) ∧ Below w.heap.size w w' := by
  obtain ⟨res, hres⟩ : ∃ res, res = makesB secs ms hs := ⟨_, rfl⟩
  have HRES := Lib.hid hres
  rw [← hres]
  obtain ⟨ao, cap, rfl, hcap, hcs⟩ := hz.shape mvF
  have HCS := Lib.hid hcs
  obtain ⟨n, hn⟩ : ∃ n, n = ms.length := ⟨_, rfl⟩
  have HN := Lib.hid hn
  rw [← hn] at hcap hml ⊢
  obtain ⟨W1, hW1⟩ : ∃ W1, W1 = (w.alloc (.cells #[x, y, .slice ao n cap] 29)).alloc (.cells #[.int .i64 0, .int .i64 0, .int .i64 0, .int .i64 0, .int .i64 0, .int .i64 0, .int .i64 0] 104) := ⟨_, rfl⟩
  have hB1 : Below w.heap.size w W1 := by rw [hW1]; exact below2 w _ _
  have hbA : W1.heap[w.heap.size]? = some (.cells #[x, y, .slice ao n cap] 29 (0, 0)) := by rw [hW1]; exact alloc1_at w _ _
  have hbP : W1.heap[w.heap.size + 1]? = some (.cells #[.int .i64 0, .int .i64 0, .int .i64 0, .int .i64 0, .int .i64 0, .int .i64 0, .int .i64 0] 104 (0, 0)) := by rw [hW1]; exact alloc2_at w _ _
  have hsz : W1.heap.size = w.heap.size + 2 := by rw [hW1]; simp
  have HSEC := Lib.hid hok
  have hbnd := hok.bound
  have hu : ∀ s ∈ secs, 1 ≤ s.unit := fun s h => (hok.ok s h).unit.1
  have HRUN : Hid (∀ k l, replayM secs [] Mv.zero (ms.take k) = some l → RunM secs [] Mv.zero (ms.take k) l) := Lib.hid fun k l h => replay_run hbnd hsI_nil h
  have HFA : Hid (∀ W, Below w.heap.size w W → ∀ l (b m : Mv) v, ListAt hldC 3 W v l → l.length ≤ 1000000 → (∀ h ∈ l, HldOk h) → Calls Try.prog 125 #[.agg #[x, y, .slice ao n cap], v, .agg (mvC b).toArray, .agg (mvC m).toArray] W fun e w' => e = .returned (.int .i64 (faultM secs l b.day m)) ∧ Below W.heap.size W w') := Lib.hid fun W hW l b m v h1 h2 h3 =>
    rxfault_any secs l b m x y _ v W (hx.below hW) (by have := hok.len; omega) hu h1 h2 h3
  have HEQ : Hid (∀ W, Below w.heap.size w W → ∀ l v, ListAt hldC 3 W v l → l.length ≤ 1000000 → Calls Try.prog 126 #[v, y] W fun e w' => e = .returned (.bool (decide (l = hs))) ∧ Below W.heap.size W w') := Lib.hid fun W hW l v h1 h2 => eqHld_any v y l hs W h1 (hy.below hW) h2 hyl
  have HCA : Hid (∀ l (b m : Mv), HsI l → l.length ≤ 800 → faultM secs l b.day m = 0 → ∀ W v, w.heap.size + 2 ≤ W.heap.size → W.ownsRow (w.heap.size + 2) 53 3 v l.length (cellsL hldC l) → Calls Try.prog 124 #[v, .agg (mvC m).toArray] W fun e w' => ∃ v', e = .returned v' ∧ RowTo (w.heap.size + 2) 53 3 W v w' v' (carryM l m).length (cellsL hldC (carryM l m))) := Lib.hid fun l b m hi hl hf W v hW ho => by
    obtain ⟨s, hm⟩ := fault_zero (fun s hs' => (hbnd s hs').2.2) hf
    refine rxcarry_any (w.heap.size + 2) v l m W hi.ok (fun hk => ?_) (by omega) hm.amt hW ho
    have hid : 1 ≤ m.sec ∧ m.sec ≤ 1000 := by
      have h1 := findS_id hm.sec
      have h2 := hbnd s h1.2
      omega
    have hh := hm.has hk
    have ho := hi.out m.sec
    have ha := hm.amt
    exact setM_ok hi.ok hid (hm.frm hk) (by omega) (by omega)
  have HB1 := Lib.hid hB1
  have HA := Lib.hid hbA
  have HP := Lib.hid hbP
  have HSZ := Lib.hid hsz
  clear hn hcs hx hy hz hres hok hbnd hu hB1 hbA hbP hsz
  go_enter Try.func100, Try.ntmps100
  go_upto_region 3 with fail
  rw [← hW1]
  clear hW1
  have hA0 := HA.out
  have a0 := obj_cell hA0 0
  have a1 := obj_cell hA0 1
  have a2 := obj_cell hA0 2
  simp at a0 a1 a2
  clear hA0
  go_wp2
  go_loopw [3, 11] (fun vv iv wr => ∃ (k : Nat) (l : List Hld), iv = .int .i64 (k : Int) ∧ k ≤ n ∧ Hid (replayM secs [] Mv.zero (ms.take k) = some l) ∧ Hid (wr.ownsRow (w.heap.size + 2) 53 3 vv l.length (cellsL hldC l)) ∧ Hid (Below w.heap.size w wr) ∧ Hid (wr.heap[w.heap.size]? = some (.cells #[x, y, .slice ao n cap] 29 (0, 0))) ∧ Hid (wr.heap[w.heap.size + 1]? = some (.cells (mvC (lastM Mv.zero (ms.take k))).toArray 104 (0, 0))) ∧ Hid (w.heap.size + 2 ≤ wr.heap.size)) (fun _ iv _ => n - (RowKit.intOf iv).toNat)
  case atStart => exact ⟨0, [], rfl, by omega, Lib.hid rfl, Lib.hid (World.ownsRow_nil _ _ _ _), HB1, HA, HP, Lib.hid (by rw [HSZ.out]; omega)⟩
  case round =>
    clear a0 a1 a2 HA HP
    obtain ⟨k, l, rfl, hkn, HRP, HOWN, HB, HA, HP, HS⟩ := hrel
    by_cases hlk : k < n
    · have hkl : k < ms.length := by rw [← HN.out]; exact hlk
      obtain ⟨b, o, rfl, hb, hcc⟩ := HCS.out (by omega)
      have hcell := fun j (hj : j < 7) => (HB.out.cell (p := ⟨b, o + k * 7 + j, none⟩) hb).trans (hcc k hkl j hj)
      have hrun := HRUN.out k l HRP.out
      have hb0 : (lastM Mv.zero (ms.take k)).num = (k : Int) := by
        have h1 := hrun.num
        rw [List.length_take, Nat.min_eq_left (by omega)] at h1
        simpa [Mv.zero] using h1
      have hll : l.length ≤ 800 := by
        have h1 := hrun.len
        rw [List.length_take, Nat.min_eq_left (by omega)] at h1
        simp at h1; omega
      have HHI := Lib.hid hrun.inv
      have HSTOP : Hid (¬ (ms[k].num = (lastM Mv.zero (ms.take k)).num + 1 ∧ faultM secs l (lastM Mv.zero (ms.take k)).day ms[k] = 0) → res = false) := Lib.hid fun h => HRES.out.trans (makes_stop hkl HRP.out h)
      have HSTEP := Lib.hid (makes_step hkl HRP.out)
      have HFA2 := Lib.hid (fun W hW v h1 => HFA.out W hW l (lastM Mv.zero (ms.take k)) ms[k] v h1 (by omega) HHI.out.ok.ok)
      have HCA2 := Lib.hid (HCA.out l (lastM Mv.zero (ms.take k)) ms[k] HHI.out hll)
      generalize lastM Mv.zero (ms.take k) = bm at *
      generalize ms[k] = m at *
      obtain ⟨b0, b1, b2, b3, b4, b5, b6⟩ := bm
      obtain ⟨m0, m1, m2, m3, m4, m5, m6⟩ := m
      simp only at hb0 HSTOP HSTEP HFA2 HCA2
      simp only [mvC] at HP HFA2 HCA2
      subst hb0
      clear hcc hrun HFA HCA
      have c0 := hcell 0 (by omega)
      have c1 := hcell 1 (by omega)
      have c2 := hcell 2 (by omega)
      have c3 := hcell 3 (by omega)
      have c4 := hcell 4 (by omega)
      have c5 := hcell 5 (by omega)
      have c6 := hcell 6 (by omega)
      simp [mvC] at c0 c1 c2 c3 c4 c5 c6
      have hk0 : (0 : Int) ≤ (k : Int) := by omega
      have hk1 : (k : Int) < (n : Int) := by omega
      obtain ⟨W2, hW2⟩ : ∃ W2, W2 = wr.alloc (.cells #[.int .i64 m0, .int .i64 m1, .int .i64 m2, .int .i64 m3, .int .i64 m4, .int .i64 m5, .int .i64 m6] 104) := ⟨_, rfl⟩
      have hBW : Below wr.heap.size wr W2 := by rw [hW2]; exact below_alloc wr _
      have HM2 : Hid (W2.heap[wr.heap.size]? = some (.cells #[.int .i64 m0, .int .i64 m1, .int .i64 m2, .int .i64 m3, .int .i64 m4, .int .i64 m5, .int .i64 m6] 104 (0, 0))) := Lib.hid (by rw [hW2]; exact heap_alloc_new wr _)
      have HA2 := Lib.hid (obj_below HA.out hBW)
      have HP2 := Lib.hid (obj_below HP.out hBW)
      have HB2 : Hid (Below w.heap.size w W2) := Lib.hid (HB.out.trans (hBW.mono HB.out.size))
      have HO2 := Lib.hid (ownsRow_below HOWN.out hBW)
      have HLT : Hid (∀ g, u3.ownBlock = some g → g ≠ wr.heap.size) := Lib.hid fun g hg => Nat.ne_of_lt (HOWN.out.lt g hg).2
      have hw2s : wr.heap.size + 1 = W2.heap.size := by rw [hW2]; simp
      have HS2 : Hid (w.heap.size + 2 ≤ W2.heap.size) := Lib.hid (by rw [← hw2s]; have := HS.out; omega)
      have HMLT : Hid (wr.heap.size < W2.heap.size) := Lib.hid (by omega)
      have HMB : Hid (w.heap.size + 2 ≤ wr.heap.size) := HS
      have hA2 := HA2.out
      have hP2 := HP2.out
      have hM2 := HM2.out
      have a0 := obj_cell hA2 0
      have a1 := obj_cell hA2 1
      have a2 := obj_cell hA2 2
      have p0 := obj_cell hP2 0
      have p1 := obj_cell hP2 1
      have p2 := obj_cell hP2 2
      have p3 := obj_cell hP2 3
      have p4 := obj_cell hP2 4
      have p5 := obj_cell hP2 5
      have p6 := obj_cell hP2 6
      have q0 := obj_cell hM2 0
      have q1 := obj_cell hM2 1
      have q2 := obj_cell hM2 2
      have q3 := obj_cell hM2 3
      have q4 := obj_cell hM2 4
      have q5 := obj_cell hM2 5
      have q6 := obj_cell hM2 6
      simp at a0 a1 a2 p0 p1 p2 p3 p4 p5 p6 q0 q1 q2 q3 q4 q5 q6
      clear hA2 hP2 hM2 hBW hcell HA HP HOWN hw2s
      have hwr : IntKind.i64.wrap ((k : Int) + 1) = (k : Int) + 1 := by rw [IntKind.wrap_i64]; omega
      go_upto_region 6 with fail
      rw [← hW2]
      clear hW2 c0 c1 c2 c3 c4 c5 c6
      by_cases hnum : m0 = (k : Int) + 1
      · subst hnum
        have HFC := Lib.hid (HFA2.out W2 HB2.out u3 (ListAt.owns HO2.out))
        generalize hfq : faultM secs l b1 ⟨(k : Int) + 1, m1, m2, m3, m4, m5, m6⟩ = f at HFC
        have HFQ := Lib.hid hfq
        clear hfq
        go_wp2_with fail
        refine Calls.mono HFC.out ?_
        rintro e x7 ⟨rfl, b7⟩
        have HB7 : Hid (Below w.heap.size w x7) := Lib.hid (HB2.out.trans (b7.mono HB2.out.size))
        clear a0 a1 a2 p0 p1 p2 p3 p4 p5 p6 q0 q1 q2 q3 q4 q5 q6 HFC
        by_cases hf : f = 0
        · subst hf
          have HA7 := Lib.hid (obj_below HA2.out b7)
          have HP7 := Lib.hid (obj_below HP2.out b7)
          have HM7 := Lib.hid (obj_below HM2.out b7)
          have HO7 := Lib.hid (ownsRow_below HO2.out b7)
          have HS7 : Hid (w.heap.size + 2 ≤ x7.heap.size) := Lib.hid (Nat.le_trans HS2.out b7.size)
          have HCC := Lib.hid (HCA2.out HFQ.out x7 u3 HS7.out HO7.out)
          have hst := HSTEP.out (by first | rfl | trivial) HFQ.out
          have HST := Lib.hid hst
          have hM7 := HM7.out
          have q0 := obj_cell hM7 0
          have q1 := obj_cell hM7 1
          have q2 := obj_cell hM7 2
          have q3 := obj_cell hM7 3
          have q4 := obj_cell hM7 4
          have q5 := obj_cell hM7 5
          have q6 := obj_cell hM7 6
          simp at q0 q1 q2 q3 q4 q5 q6
          clear hM7 hst HFA2 HCA2 HSTEP HSTOP HFQ HA2 HP2 HM2 HO2 b7
          go_wp2_with fail
          refine Calls.mono HCC.out ?_
          rintro e x8 ⟨v8, rfl, hR⟩
          have hb8 := hR.belowB HO7.out HS7.out
          have HM8 : Hid (x8.heap[wr.heap.size]? = some (.cells #[.int .i64 ((k : Int) + 1), .int .i64 m1, .int .i64 m2, .int .i64 m3, .int .i64 m4, .int .i64 m5, .int .i64 m6] 104 (0, 0))) := Lib.hid ((hR.grown.block _ (obj_lt HM7.out) fun e => HLT.out _ e.symm rfl).trans HM7.out)
          have HA8 : Hid (x8.heap[w.heap.size]? = some (.cells #[x, y, .slice (some ⟨b, o, none⟩) n cap] 29 (0, 0))) := Lib.hid ((hb8.block _ (by omega)).trans HA7.out)
          have HP8 := Lib.hid ((hb8.block (w.heap.size + 1) (by omega)).trans HP7.out)
          have HB8 : Hid (Below w.heap.size w x8) := Lib.hid (HB7.out.trans (hb8.mono (by omega)))
          have HO8 := Lib.hid hR.owns
          have HS8 : Hid (w.heap.size + 2 ≤ x8.heap.size) := Lib.hid (Nat.le_trans HS7.out hb8.size)
          have hM8 := HM8.out
          have hP8 := HP8.out
          clear q0 q1 q2 q3 q4 q5 q6 hR hb8 HCC
          have q0 := obj_cell hM8 0
          have q1 := obj_cell hM8 1
          have q2 := obj_cell hM8 2
          have q3 := obj_cell hM8 3
          have q4 := obj_cell hM8 4
          have q5 := obj_cell hM8 5
          have q6 := obj_cell hM8 6
          have p0 := obj_cell hP8 0
          have p1 := obj_cell hP8 1
          have p2 := obj_cell hP8 2
          have p3 := obj_cell hP8 3
          have p4 := obj_cell hP8 4
          have p5 := obj_cell hP8 5
          have p6 := obj_cell hP8 6
          have f0 := obj_free hP8 0
          have f1 := obj_free hP8 1
          have f2 := obj_free hP8 2
          have f3 := obj_free hP8 3
          have f4 := obj_free hP8 4
          have f5 := obj_free hP8 5
          have f6 := obj_free hP8 6
          simp at q0 q1 q2 q3 q4 q5 q6 p0 p1 p2 p3 p4 p5 p6
          clear hM8 hP8
          go_wp2
          go_roundw
          case rel =>
            refine ⟨k + 1, _, by first | rfl | go_num, by omega, Lib.hid HST.out.1, Lib.hid (owns_put7 HO8.out (by omega) _ _ _ _ _ _ _), Lib.hid (put7_below HB8.out (by omega) _ _ _ _ _ _ _), Lib.hid ((put7_other (by omega) _ _ _ _ _ _ _).trans HA8.out), Lib.hid ?_, Lib.hid (by show w.heap.size + 2 ≤ (put7 x8 (w.heap.size + 1) _ _ _ _ _ _ _).heap.size; rw [put7_size]; exact HS8.out)⟩
            rw [HST.out.2]
            exact put7_at HP8.out rfl _ _ _ _ _ _ _
          case measure => simp [RowKit.intOf]; omega
        · obtain rfl : res = false := HSTOP.out fun h => hf (HFQ.out ▸ h.2)
          have hbf : (f != 0) = true := by simpa using hf
          go_wp2
          go_ret
          exact ⟨rfl, HB7.out⟩
      · obtain rfl : res = false := HSTOP.out fun h => hnum h.1
        have hbf : (m0 != (k : Int) + 1) = true := by simpa using hnum
        go_wp2
        go_ret
        exact ⟨rfl, HB2.out⟩
    · obtain rfl : k = n := by omega
      have hll : l.length ≤ 1000000 := by
        have h1 := (HRUN.out k l HRP.out).len
        rw [List.length_take] at h1
        simp at h1; omega
      have HR2 : Hid (res = decide (l = hs)) := Lib.hid (by
        rw [HRES.out]
        unfold makesB
        have h := HRP.out
        rw [HN.out, List.take_length] at h
        rw [h]
        exact decide_eq_decide.2 ⟨fun e => Option.some.inj e, fun e => by rw [e]⟩)
      have HQ := Lib.hid (HEQ.out wr HB.out l u3 (ListAt.owns HOWN.out) hll)
      have hA2 := HA.out
      have a0 := obj_cell hA2 0
      have a1 := obj_cell hA2 1
      have a2 := obj_cell hA2 2
      simp at a0 a1 a2
      clear hA2 HEQ HRUN HFA HCA
      go_wp2_with fail
      refine Calls.mono HQ.out ?_
      rintro e x7 ⟨rfl, b7⟩
      have HB7 : Hid (Below w.heap.size w x7) := Lib.hid (HB.out.trans (b7.mono HB.out.size))
      clear b7
      go_wp2
      go_ret
      rw [HR2.out]
      exact ⟨rfl, HB7.out⟩

end Go.Proofs.Ytblidmkkbcobgaa

/- register.Check, Held, Outstanding and Debt, where the securities are right. -/
set_option linter.unusedSimpArgs false
set_option linter.unusedVariables false
namespace Go.Proofs.Ytblidmkkbcobgaa
open Go.RowKit Go.Lib Go.Proofs

/-- A register's three lists, wherever they lie. -/
structure RegAt (w : World) (x y z : Value) (r : Reg) : Prop where
  secs : ListAt Sec.cells 7 w x r.secs
  hs : ListAt hldC 3 w y r.hs
  ms : ListAt mvC 7 w z r.ms
theorem RegAt.below {w w' : World} {x y z : Value} {r : Reg} (h : RegAt w x y z r) (hb : Below w.heap.size w w') : RegAt w' x y z r := ⟨h.secs.below hb, h.hs.below hb, h.ms.below hb⟩
/-- What Check tells of a register whose securities are right. -/
structure RegS (r : Reg) : Prop where
  secs : SecsOk r.secs
  hl : r.hs.length ≤ 1000000
  ml : r.ms.length ≤ 400
def checkR (r : Reg) : Int := if makesB r.secs r.ms r.hs then 0 else 78
theorem checkR_ok {r : Reg} (h : RegOk r) : checkR r = 0 := by unfold checkR makesB; rw [h.run]; simp
theorem RegOk.regS {r : Reg} (h : RegOk r) : RegS r := ⟨h.secs, by have := h.hsLen; omega, h.len⟩
theorem checkR_zero {r : Reg} (h : RegS r) (hc : checkR r = 0) : RegOk r := by
  unfold checkR makesB at hc
  split at hc
  · rename_i hm
    exact ⟨h.secs, h.ml, of_decide_eq_true hm⟩
  · omega

set_option maxHeartbeats 4000000 in
theorem rxCheck_any (r : Reg) (x y z : Value) (w : World) (h : RegS r) (hr : RegAt w x y z r) :
    Calls Try.prog 46 #[.agg #[x, y, z]] w fun e w' => e = .returned (.int .i64 (checkR r)) ∧ Below w.heap.size w w' := by
  obtain ⟨res, hres⟩ : ∃ res, res = checkR r := ⟨_, rfl⟩
  rw [← hres]
  unfold checkR at hres
  have hB := below_alloc w (.cells #[x, y, z] 29)
  have HSC := Lib.hid (fun W (hW : Below w.heap.size w W) => rxsecs_ok r.secs x W h.secs (hr.secs.below hW))
  have HMV := Lib.hid (fun W (hW : Below w.heap.size w W) => rxmoves_any r.secs r.hs r.ms x y z W h.secs (hr.secs.below hW) (hr.hs.below hW) h.hl (hr.ms.below hW) h.ml)
  obtain ⟨aS, cS, hxe, hcS, -⟩ := hr.secs.shape secF
  obtain ⟨aM, cM, hze, hcM, -⟩ := hr.ms.shape mvF
  have hs20 := h.secs.len
  have hm400 := h.ml
  generalize makesB r.secs r.ms r.hs = mk at hres HMV
  generalize r.secs.length = nS at *
  generalize r.ms.length = nM at *
  have HRES := Lib.hid hres
  subst hxe hze
  have hb1 : ¬ (20 : Int) < (nS : Int) := by omega
  have hb2 : ¬ (400 : Int) < (nM : Int) := by omega
  obtain ⟨W1, hW1⟩ : ∃ W1, W1 = w.alloc (.cells #[.slice aS nS cS, y, .slice aM nM cM] 29) := ⟨_, rfl⟩
  have HA : Hid (W1.heap[w.heap.size]? = some (.cells #[.slice aS nS cS, y, .slice aM nM cM] 29 (0, 0))) := Lib.hid (by rw [hW1]; exact heap_alloc_new w _)
  have HB := Lib.hid hB
  rw [← hW1] at HB
  clear h hr hres hB hs20 hm400
  have hA := HA.out
  have a0 := obj_cell hA 0
  have a1 := obj_cell hA 1
  have a2 := obj_cell hA 2
  simp at a0 a1 a2
  clear hA
  go_enter Try.func46, Try.ntmps46
  go_upto_region 1 with fail
  rw [← hW1]
  clear hW1
  go_wp2_with fail
  refine Calls.mono (HSC.out _ HB.out) ?_
  rintro e x7 ⟨rfl, b7⟩
  have HB7 := Lib.hid (HB.out.trans (b7.mono HB.out.size))
  have hA := obj_below HA.out b7
  clear a0 a1 a2 b7
  have a0 := obj_cell hA 0
  have a1 := obj_cell hA 1
  have a2 := obj_cell hA 2
  simp at a0 a1 a2
  clear hA
  go_wp2_with fail
  refine Calls.mono (HMV.out _ HB7.out) ?_
  rintro e x8 ⟨rfl, b8⟩
  have HB8 := Lib.hid (HB7.out.trans (b8.mono HB7.out.size))
  clear a0 a1 a2 b8
  cases mk with
  | false =>
    obtain rfl : res = 78 := HRES.out
    go_wp2
    go_ret
    exact ⟨rfl, HB8.out⟩
  | true =>
    obtain rfl : res = 0 := HRES.out
    go_wp2
    go_ret
    exact ⟨rfl, HB8.out⟩

set_option maxHeartbeats 4000000 in
theorem rxsum_any (f : Nat) (lb : Array Value) (eg : ∀ args w, (callFunc f args).run Try.prog w = .ok (.enter f args) w) (p : Hld → Bool) (r : Reg) (x y z : Value) (w : World) (h : RegS r) (hr : RegAt w x y z r)
    (hp : ∀ h W, Below w.heap.size w W → Calls Try.prog f (#[.agg (hldC h).toArray] ++ lb) W fun e W' => e = .returned (.bool (p h)) ∧ Below W.heap.size W W') :
    Calls Try.prog 105 #[.agg #[x, y, z], .func (.func f) #[] lb] w fun e w' => e = .returned (.int .i64 (if checkR r = 0 then sumH p r.hs else 0)) ∧ Below w.heap.size w w' := by
  have hB := below_alloc w (.cells #[x, y, z] 29)
  have HCK := Lib.hid (fun W (hW : Below w.heap.size w W) => rxCheck_any r x y z W h (hr.below hW))
  have HSM : Hid (checkR r = 0 → ∀ W, Below w.heap.size w W → Calls Try.prog 127 #[y, .func (.func f) #[] lb] W fun e w' => e = .returned (.int .i64 (sumH p r.hs)) ∧ Below W.heap.size W w') := Lib.hid fun hc W hW =>
    rxsumOf_any f lb eg p r.hs y W (hr.hs.below hW) h.hl (sumB_ok (checkR_zero h hc).runM.inv.ok.ok h.hl) fun h W2 hW2 => hp h W2 (hW.trans (hW2.mono hW.size))
  obtain ⟨W1, hW1⟩ : ∃ W1, W1 = w.alloc (.cells #[x, y, z] 29) := ⟨_, rfl⟩
  have HA : Hid (W1.heap[w.heap.size]? = some (.cells #[x, y, z] 29 (0, 0))) := Lib.hid (by rw [hW1]; exact heap_alloc_new w _)
  have HB := Lib.hid hB
  rw [← hW1] at HB
  clear h hr hB hp eg
  have hA := HA.out
  have a0 := obj_cell hA 0
  have a1 := obj_cell hA 1
  have a2 := obj_cell hA 2
  simp at a0 a1 a2
  clear hA
  obtain ⟨c, hc⟩ : ∃ c, c = checkR r := ⟨_, rfl⟩
  rw [← hc] at HCK HSM ⊢
  clear hc
  by_cases h0 : c = 0
  · subst h0
    rw [if_pos rfl]
    go_enter Try.func105, Try.ntmps105
    go_upto_region 1 with fail
    rw [← hW1]
    clear hW1
    go_wp2_with fail
    refine Calls.mono (HCK.out _ HB.out) ?_
    rintro e x7 ⟨rfl, b7⟩
    have HB7 := Lib.hid (HB.out.trans (b7.mono HB.out.size))
    have hA := obj_below HA.out b7
    clear a0 a1 a2 b7
    have a1 := obj_cell hA 1
    simp at a1
    clear hA
    go_wp2_with fail
    refine Calls.mono (HSM.out (by first | rfl | trivial) _ HB7.out) ?_
    rintro e x8 ⟨rfl, b8⟩
    have HB8 := Lib.hid (HB7.out.trans (b8.mono HB7.out.size))
    clear a1 b8
    go_wp2
    go_ret
    exact ⟨rfl, HB8.out⟩
  · rw [if_neg h0]
    have hbf : (c != 0) = true := by simpa using h0
    go_enter Try.func105, Try.ntmps105
    go_upto_region 1 with fail
    rw [← hW1]
    clear hW1
    go_wp2_with fail
    refine Calls.mono (HCK.out _ HB.out) ?_
    rintro e x7 ⟨rfl, b7⟩
    have HB7 := Lib.hid (HB.out.trans (b7.mono HB.out.size))
    clear a0 a1 a2 b7
    go_wp2
    go_ret
    exact ⟨rfl, HB7.out⟩

theorem rxOutC_any (b : Nat) (id : Int) (h : Hld) (W : World) (hb : W.heap[b]? = some (.cells #[.int .i64 id] 3 (0, 0))) :
    Calls Try.prog 110 (#[.agg (hldC h).toArray] ++ #[.pointer (some ⟨b, 0, none⟩)]) W fun e W' => e = .returned (.bool (isOf id h)) ∧ Below W.heap.size W W' := by
  have c0 := obj_cell hb 0
  have hlt := obj_lt hb
  obtain ⟨hs, hw, ha⟩ := h
  simp at c0
  simp only [hldC, isOf]
  clear hb
  by_cases h1 : hs = id
  · subst h1
    rw [beq_self_eq_true]
    go_enter Try.func110, Try.ntmps110
    go_wp2
    go_ret
    exact ⟨rfl, below_alloc W _⟩
  · have hbe : (hs == id) = false := beq_eq_false_iff_ne.2 h1
    rw [beq_eq_false_iff_ne.2 h1]
    go_enter Try.func110, Try.ntmps110
    go_wp2
    go_ret
    exact ⟨rfl, below_alloc W _⟩
theorem rxDebtC_any (h : Hld) (W : World) : Calls Try.prog 106 (#[.agg (hldC h).toArray] ++ #[]) W fun e W' => e = .returned (.bool true) ∧ Below W.heap.size W W' := by
  obtain ⟨hs, hw, ha⟩ := h
  simp only [hldC]
  go_enter Try.func106, Try.ntmps106
  go_wp2
  go_ret
  exact ⟨rfl, by first | exact Below.refl _ _ | exact below_alloc W _⟩

/-- What is held, outstanding, owed of a register: nothing, where it is not right. -/
def heldR (r : Reg) (id who : Int) : Int := if checkR r = 0 then heldM r.hs id who else 0
def outR (r : Reg) (id : Int) : Int := if checkR r = 0 then outM r.hs id else 0
def debtR (r : Reg) : Int := if checkR r = 0 then debtM r.hs else 0

set_option maxHeartbeats 2000000 in
theorem rxOutstanding_any (r : Reg) (x y z : Value) (id : Int) (w : World) (h : RegS r) (hr : RegAt w x y z r) :
    Calls Try.prog 73 #[.agg #[x, y, z], .int .i64 id] w fun e w' => e = .returned (.int .i64 (outR r id)) ∧ Below w.heap.size w w' := by
  have eg := enters_of Try.func110 (by kernel_rfl) rfl
  obtain ⟨W1, hW1⟩ : ∃ W1, W1 = (w.alloc (.cells #[x, y, z] 29)).alloc (.cells #[.int .i64 id] 3) := ⟨_, rfl⟩
  have hB : Below w.heap.size w W1 := by rw [hW1]; exact below2 w _ _
  have A0 : W1.heap[w.heap.size]? = some (.cells #[x, y, z] 29 (0, 0)) := by rw [hW1]; exact alloc1_at w _ _
  have A1 : W1.heap[w.heap.size + 1]? = some (.cells #[.int .i64 id] 3 (0, 0)) := by rw [hW1]; exact alloc2_at w _ _
  have H := Lib.hid (rxsum_any 110 #[.pointer (some ⟨w.heap.size + 1, 0, none⟩)] eg (isOf id) r x y z W1 h (hr.below hB) fun h W hW => rxOutC_any _ id h W (obj_below A1 hW))
  have HB := Lib.hid hB
  have a0 := obj_cell A0 0
  have a1 := obj_cell A0 1
  have a2 := obj_cell A0 2
  simp at a0 a1 a2
  unfold outR outM
  generalize (if checkR r = 0 then sumH (isOf id) r.hs else 0) = q at H ⊢
  clear h hr hB A0 A1 eg
  go_enter Try.func73, Try.ntmps73
  go_upto_region 1 with fail
  rw [← hW1]
  clear hW1
  go_wp2_with (go_at_call 105; refine H.out.mono ?_; rintro e w' ⟨rfl, b7⟩; have HJ := Lib.hid (HB.out.trans (b7.mono HB.out.size)); clear b7)
  go_ret
  exact ⟨rfl, HJ.out⟩
set_option maxHeartbeats 2000000 in
theorem rxDebt_any (r : Reg) (x y z : Value) (w : World) (h : RegS r) (hr : RegAt w x y z r) :
    Calls Try.prog 61 #[.agg #[x, y, z]] w fun e w' => e = .returned (.int .i64 (debtR r)) ∧ Below w.heap.size w w' := by
  have eg := enters_of Try.func106 (by kernel_rfl) rfl
  obtain ⟨W1, hW1⟩ : ∃ W1, W1 = w.alloc (.cells #[x, y, z] 29) := ⟨_, rfl⟩
  have hB : Below w.heap.size w W1 := by rw [hW1]; exact below_alloc w _
  have A0 : W1.heap[w.heap.size]? = some (.cells #[x, y, z] 29 (0, 0)) := by rw [hW1]; exact heap_alloc_new w _
  have H := Lib.hid (rxsum_any 106 #[] eg (fun _ => true) r x y z W1 h (hr.below hB) fun h W hW => rxDebtC_any h W)
  have HB := Lib.hid hB
  have a0 := obj_cell A0 0
  have a1 := obj_cell A0 1
  have a2 := obj_cell A0 2
  simp at a0 a1 a2
  unfold debtR debtM
  generalize (if checkR r = 0 then sumH (fun _ => true) r.hs else 0) = q at H ⊢
  clear h hr hB A0 eg
  go_enter Try.func61, Try.ntmps61
  go_upto_region 1 with fail
  rw [← hW1]
  clear hW1
  go_wp2_with (go_at_call 105; refine H.out.mono ?_; rintro e w' ⟨rfl, b7⟩; have HJ := Lib.hid (HB.out.trans (b7.mono HB.out.size)); clear b7)
  go_ret
  exact ⟨rfl, HJ.out⟩

end Go.Proofs.Ytblidmkkbcobgaa

/- The register's reference: Find, outstanding, held, holder. -/
set_option linter.unusedSimpArgs false
set_option linter.unusedVariables false
namespace Go.Proofs.Ytblidmkkbcobgaa
open Go.RowKit Go.Lib Go.Proofs

set_option maxHeartbeats 8000000 in
theorem ryFind_any (secs : List Sec) (id : Int) (x y z : Value) (w : World) (hl : ListAt Sec.cells 7 w x secs) (hlen : secs.length ≤ 1000000) :
    Calls Try.prog 23 #[.agg #[x, y, z], .int .i64 id] w fun e w' => e = .returned (.tuple #[.agg (((findS id secs).getD Sec.zero).cells).toArray, .bool (findS id secs).isSome]) ∧ Below w.heap.size w w' := by
  obtain ⟨ao, cap, rfl, hcap, hcs⟩ := hl.shape secF
  have HCS := Lib.hid hcs
  obtain ⟨n, hn⟩ : ∃ n, n = secs.length := ⟨_, rfl⟩
  have HN := Lib.hid hn
  rw [← hn] at hcap hlen ⊢
  obtain ⟨res, hres⟩ : ∃ res, res = findS id secs := ⟨_, rfl⟩
  have HRES := Lib.hid hres
  rw [← hres]
  have HR0 := Lib.hid (alloc2_at w (.cells #[.slice ao n cap, y, z] 29) (.cells #[.int .i64 0, .int .i64 0, .int .i64 0, .int .i64 0, .int .i64 0, .int .i64 0, .bool false] 55))
  have HB0 := Lib.hid (below2 w (.cells #[.slice ao n cap, y, z] 29) (.cells #[.int .i64 0, .int .i64 0, .int .i64 0, .int .i64 0, .int .i64 0, .int .i64 0, .bool false] 55))
  clear hn hcs hl hres
  go_enter Try.func23, Try.ntmps23
  go_wp2
  go_loopw [11] (fun iv wr => ∃ k : Nat, iv = .int .i64 (k : Int) ∧ k ≤ n ∧ Hid (findS id (secs.take k) = none) ∧ Hid (Below w.heap.size w wr) ∧ Hid (wr.heap[w.heap.size + 1]? = some (.cells #[.int .i64 0, .int .i64 0, .int .i64 0, .int .i64 0, .int .i64 0, .int .i64 0, .bool false] 55 (0, 0)))) (fun iv _ => n - (RowKit.intOf iv).toNat)
  case atStart => exact ⟨0, rfl, by omega, Lib.hid rfl, HB0, HR0⟩
  case round =>
    clear HB0 HR0
    obtain ⟨k, rfl, hkn, HF, HB, HR⟩ := hrel
    by_cases hlk : k < n
    · have hkl : k < secs.length := by rw [← HN.out]; exact hlk
      obtain ⟨b, o, rfl, hb, hcc⟩ := HCS.out (by omega)
      have hcell := fun j (hj : j < 7) => (HB.out.cell (p := ⟨b, o + k * 7 + j, none⟩) hb).trans (hcc k hkl j hj)
      have HSN : Hid (findS id (secs.take (k + 1)) = if secs[k].id = id then some secs[k] else none) := Lib.hid (by
        rw [List.take_succ_eq_append_getElem hkl]; exact findS_snoc HF.out)
      have HAP : Hid (∀ s, findS id (secs.take (k + 1)) = some s → res = some s) := Lib.hid fun s hs => by
        rw [HRES.out, ← List.take_append_drop (k + 1) secs]; exact findS_app hs
      generalize secs[k] = s at *
      obtain ⟨s0, s1, s2, s3, s4, s5, s6⟩ := s
      clear hcc
      have c0 := hcell 0 (by omega)
      have c1 := hcell 1 (by omega)
      have c2 := hcell 2 (by omega)
      have c3 := hcell 3 (by omega)
      have c4 := hcell 4 (by omega)
      have c5 := hcell 5 (by omega)
      have c6 := hcell 6 (by omega)
      simp [Sec.cells] at c0 c1 c2 c3 c4 c5 c6
      clear hcell
      have hk0 : (0 : Int) ≤ (k : Int) := by omega
      have hk1 : (k : Int) < (n : Int) := by omega
      obtain ⟨W1, hW1⟩ : ∃ W1, W1 = wr.alloc (.cells #[.int .i64 s0, .int .i64 s1, .int .i64 s2, .int .i64 s3, .int .i64 s4, .int .i64 s5, .bool s6] 55) := ⟨_, rfl⟩
      have HB1 : Hid (Below w.heap.size w W1) := Lib.hid (by rw [hW1]; exact HB.out.alloc HB.out.size _)
      have HR1 : Hid (W1.heap[w.heap.size + 1]? = some (.cells #[.int .i64 0, .int .i64 0, .int .i64 0, .int .i64 0, .int .i64 0, .int .i64 0, .bool false] 55 (0, 0))) := Lib.hid (by rw [hW1]; exact obj_below HR.out (below_alloc wr _))
      by_cases hid0 : s0 = id
      · subst hid0
        have hr := HAP.out _ (HSN.out.trans (if_pos rfl))
        subst hr
        have hfr := fun j => obj_free HR1.out j
        have f0 := hfr 0
        have f1 := hfr 1
        have f2 := hfr 2
        have f3 := hfr 3
        have f4 := hfr 4
        have f5 := hfr 5
        have f6 := hfr 6
        have hrc := fun j => obj_cell HR1.out j
        have r0 := hrc 0
        have r1 := hrc 1
        have r2 := hrc 2
        have r3 := hrc 3
        have r4 := hrc 4
        have r5 := hrc 5
        have r6 := hrc 6
        simp at r0 r1 r2 r3 r4 r5 r6
        have hN : W1.heap[wr.heap.size]? = some (.cells #[.int .i64 s0, .int .i64 s1, .int .i64 s2, .int .i64 s3, .int .i64 s4, .int .i64 s5, .bool s6] 55 (0, 0)) := by rw [hW1]; exact heap_alloc_new wr _
        have n0 := obj_cell hN 0
        have n1 := obj_cell hN 1
        have n2 := obj_cell hN 2
        have n3 := obj_cell hN 3
        have n4 := obj_cell hN 4
        have n5 := obj_cell hN 5
        have n6 := obj_cell hN 6
        simp at n0 n1 n2 n3 n4 n5 n6
        clear hrc hfr hN HSN HAP
        go_upto_region 4 with fail
        rw [← hW1]
        clear hW1 c0 c1 c2 c3 c4 c5 c6
        go_wp2
        refine ret7 HR1.out rfl _ _ _ _ _ _ _ (fun F hF => ?_) rfl ⟨rfl, put7_below HB1.out (by omega) _ _ _ _ _ _ _⟩
        have q0 := obj_cell hF 0
        have q1 := obj_cell hF 1
        have q2 := obj_cell hF 2
        have q3 := obj_cell hF 3
        have q4 := obj_cell hF 4
        have q5 := obj_cell hF 5
        have q6 := obj_cell hF 6
        simp [results, Try.results23, go_sem, q0, q1, q2, q3, q4, q5, q6, Sec.cells]
      · have HSN2 : Hid (findS id (secs.take (k + 1)) = none) := Lib.hid (HSN.out.trans (if_neg hid0))
        clear HSN HAP
        go_wp2
        go_roundw
        case rel =>
          rw [← hW1]
          exact ⟨k + 1, by first | rfl | go_num, by omega, HSN2, HB1, HR1⟩
        case measure => simp [RowKit.intOf]; omega
    · obtain rfl : k = n := by omega
      have hr : res = none := by rw [HRES.out, ← HF.out, HN.out, List.take_length]
      subst hr
      have hfr := fun j => obj_free HR.out j
      have f0 := hfr 0
      have f1 := hfr 1
      have f2 := hfr 2
      have f3 := hfr 3
      have f4 := hfr 4
      have f5 := hfr 5
      have f6 := hfr 6
      have hrc := fun j => obj_cell HR.out j
      have r0 := hrc 0
      have r1 := hrc 1
      have r2 := hrc 2
      have r3 := hrc 3
      have r4 := hrc 4
      have r5 := hrc 5
      have r6 := hrc 6
      simp at r0 r1 r2 r3 r4 r5 r6
      clear hrc hfr
      go_wp2
      refine ret7 HR.out rfl _ _ _ _ _ _ _ (fun F hF => ?_) rfl ⟨rfl, put7_below HB.out (by omega) _ _ _ _ _ _ _⟩
      have q0 := obj_cell hF 0
      have q1 := obj_cell hF 1
      have q2 := obj_cell hF 2
      have q3 := obj_cell hF 3
      have q4 := obj_cell hF 4
      have q5 := obj_cell hF 5
      have q6 := obj_cell hF 6
      simp [results, Try.results23, go_sem, q0, q1, q2, q3, q4, q5, q6, Sec.cells, Sec.zero]


theorem ryholder_any (n : Int) (w : World) : Calls Try.prog 128 #[.int .i64 n] w fun e w' => e = .returned (.bool (inB n 1 1000)) ∧ w = w' := by
  by_cases h1 : 1 ≤ n
  · by_cases h2 : n ≤ 1000
    · rw [show inB n 1 1000 = true from inB_true.2 ⟨h1, h2⟩]
      go_enter Try.func128, Try.ntmps128
      go_wp2
      go_ret
      exact ⟨rfl, rfl⟩
    · rw [show inB n 1 1000 = false from inB_false.2 (fun q => h2 q.2)]
      go_enter Try.func128, Try.ntmps128
      go_wp2
      go_ret
      exact ⟨rfl, rfl⟩
  · rw [show inB n 1 1000 = false from inB_false.2 (fun q => h1 q.1)]
    go_enter Try.func128, Try.ntmps128
    go_wp2
    go_ret
    exact ⟨rfl, rfl⟩

set_option maxHeartbeats 4000000 in
theorem ryoutstanding_any (l : List Hld) (id : Int) (v : Value) (w : World) (hl : ListAt hldC 3 w v l) (hlen : l.length ≤ 1000000) (hb : sumB (isOf id) l) :
    Calls Try.prog 129 #[v, .int .i64 id] w fun e w' => e = .returned (.int .i64 (outM l id)) ∧ Below w.heap.size w w' := by
  obtain ⟨ao, cap, rfl, hcap, hcs⟩ := hl.shape hldF
  have HCS := Lib.hid hcs
  have HSB := Lib.hid hb
  obtain ⟨n, hn⟩ : ∃ n, n = l.length := ⟨_, rfl⟩
  have HN := Lib.hid hn
  rw [← hn] at hcap hlen ⊢
  obtain ⟨res, hres⟩ : ∃ res, res = sumH (isOf id) l := ⟨_, rfl⟩
  have HRES := Lib.hid hres
  unfold outM
  rw [← hres]
  clear hn hcs hl hb hres
  go_enter Try.func129, Try.ntmps129
  go_wp2
  go_loopw [5, 10] (fun sv iv wr => ∃ k : Nat, sv = .int .i64 (sumH (isOf id) (l.take k)) ∧ iv = .int .i64 (k : Int) ∧ k ≤ n ∧ Hid (Below w.heap.size w wr)) (fun _ iv _ => n - (RowKit.intOf iv).toNat)
  case atStart => exact ⟨0, rfl, rfl, by omega, Lib.hid (Below.refl _ _)⟩
  case round =>
    obtain ⟨k, rfl, rfl, hkn, HB⟩ := hrel
    by_cases hlk : k < n
    · have hkl : k < l.length := by rw [← HN.out]; exact hlk
      obtain ⟨b, o, rfl, hb, hcc⟩ := HCS.out (by omega)
      have hcell := fun j (hj : j < 3) => (HB.out.cell (p := ⟨b, o + k * 3 + j, none⟩) hb).trans (hcc k hkl j hj)
      have htk : sumH (isOf id) (l.take (k + 1)) = sumH (isOf id) (l.take k) + (if isOf id l[k] then l[k].amt else 0) := by
        rw [← sumH_snoc, ← List.take_succ_eq_append_getElem hkl]
      have hb1 := HSB.out k
      have hb2 := HSB.out (k + 1)
      rw [htk] at hb2
      have HTK := Lib.hid htk
      clear htk
      obtain ⟨s0, hs0⟩ : ∃ s0, s0 = sumH (isOf id) (l.take k) := ⟨_, rfl⟩
      rw [← hs0] at hb1 hb2 HTK ⊢
      generalize l[k] = x at *
      obtain ⟨xa, xb, xc⟩ := x
      simp only at hb2
      have hcd : isOf id ⟨xa, xb, xc⟩ = (xa == id) := rfl
      rw [hcd] at hb2 HTK
      clear hcc hs0 hcd
      have c0 := hcell 0 (by omega)
      have c1 := hcell 1 (by omega)
      have c2 := hcell 2 (by omega)
      simp [hldC] at c0 c1 c2
      have hk0 : (0 : Int) ≤ (k : Int) := by omega
      have hk1 : (k : Int) < (n : Int) := by omega
      have HXP := Lib.hid (heap_alloc_new wr (.cells #[.int .i64 xa, .int .i64 xb, .int .i64 xc] 53))
      have HBP := Lib.hid (HB.out.alloc HB.out.size (.cells #[.int .i64 xa, .int .i64 xb, .int .i64 xc] 53))
      clear hcell
      by_cases hxi : xa = id
      · subst hxi
        rw [beq_self_eq_true] at hb2 HTK
        simp only [if_true] at hb2
        have hw : IntKind.i64.wrap (s0 + xc) = s0 + xc := IntWalk.i64_in _ (by omega)
        go_wp2
        go_roundw
        case rel => exact ⟨k + 1, by rw [HTK.out]; simp, by first | rfl | go_num, by omega, HBP⟩
        case measure => simp [RowKit.intOf]; omega
      · have hbe : (xa == id) = false := beq_eq_false_iff_ne.2 hxi
        rw [hbe] at HTK
        go_wp2
        go_roundw
        case rel => exact ⟨k + 1, by rw [HTK.out]; simp, by first | rfl | go_num, by omega, HBP⟩
        case measure => simp [RowKit.intOf]; omega
    · obtain rfl : k = n := by omega
      have hR : sumH (isOf id) (l.take k) = res := by rw [HRES.out, HN.out, List.take_length]
      rw [hR]
      go_wp2
      go_ret
      exact ⟨rfl, HB.out⟩

end Go.Proofs.Ytblidmkkbcobgaa

/- The register's reference: held. -/
set_option linter.unusedSimpArgs false
set_option linter.unusedVariables false
namespace Go.Proofs.Ytblidmkkbcobgaa
open Go.RowKit Go.Lib Go.Proofs

/-- The first holding of a security and a holder. -/
def firstH (id who : Int) : List Hld → Int
  | [] => 0
  | h :: l => if h.sec = id ∧ h.who = who then h.amt else firstH id who l
theorem firstH_eq {id who : Int} : ∀ {l : List Hld}, l.Pairwise hlt → firstH id who l = heldM l id who
  | [], _ => rfl
  | h :: l, hp => by
    have hp2 := List.pairwise_cons.1 hp
    unfold heldM sumH firstH
    by_cases hc : h.sec = id ∧ h.who = who
    · have h1 : isAt id who h = true := by simp [isAt, hc.1, hc.2]
      have h2 : heldM l id who = 0 := heldM_low (l := l) fun k hk => by
        have h3 := hp2.1 k hk
        unfold hlt at h3 ⊢
        simp only
        omega
      unfold heldM at h2
      rw [if_pos hc, h1, h2]; simp
    · have h1 : isAt id who h = false := by
        unfold isAt
        by_cases e : h.sec = id
        · rw [beq_eq_false_iff_ne.2 (fun e2 => hc ⟨e, e2⟩), Bool.and_false]
        · rw [beq_eq_false_iff_ne.2 e, Bool.false_and]
      have ih := firstH_eq (id := id) (who := who) hp2.2
      unfold heldM at ih
      rw [if_neg hc, h1, ih]; simp
theorem firstH_app {id who : Int} {x : Hld} : ∀ {l k : List Hld}, (∀ h ∈ l, ¬ (h.sec = id ∧ h.who = who)) → firstH id who (l ++ x :: k) = if x.sec = id ∧ x.who = who then x.amt else firstH id who k
  | [], k, _ => rfl
  | h :: l, k, hn => by
    have e : firstH id who (h :: l ++ x :: k) = firstH id who (l ++ x :: k) := by
      show (if h.sec = id ∧ h.who = who then h.amt else firstH id who (l ++ x :: k)) = _
      exact if_neg (hn h List.mem_cons_self)
    rw [e]
    exact firstH_app fun y hy => hn y (List.mem_cons_of_mem _ hy)
theorem firstH_none {id who : Int} : ∀ {l : List Hld}, (∀ h ∈ l, ¬ (h.sec = id ∧ h.who = who)) → firstH id who l = 0
  | [], _ => rfl
  | h :: l, hn => by
    unfold firstH
    rw [if_neg (hn h List.mem_cons_self)]
    exact firstH_none fun y hy => hn y (List.mem_cons_of_mem _ hy)

set_option maxHeartbeats 4000000 in
theorem ryheld_any (l : List Hld) (id who : Int) (v : Value) (w : World) (hl : ListAt hldC 3 w v l) (hlen : l.length ≤ 1000000) :
    Calls Try.prog 67 #[v, .int .i64 id, .int .i64 who] w fun e w' => e = .returned (.int .i64 (firstH id who l)) ∧ Below w.heap.size w w' := by
  obtain ⟨ao, cap, rfl, hcap, hcs⟩ := hl.shape hldF
  have HCS := Lib.hid hcs
  obtain ⟨n, hn⟩ : ∃ n, n = l.length := ⟨_, rfl⟩
  have HN := Lib.hid hn
  rw [← hn] at hcap hlen ⊢
  obtain ⟨res, hres⟩ : ∃ res, res = firstH id who l := ⟨_, rfl⟩
  have HRES := Lib.hid hres
  rw [← hres]
  clear hn hcs hl hres
  go_enter Try.func67, Try.ntmps67
  go_wp2
  go_loopw [11] (fun iv wr => ∃ k : Nat, iv = .int .i64 (k : Int) ∧ k ≤ n ∧ Hid (∀ h ∈ l.take k, ¬ (h.sec = id ∧ h.who = who)) ∧ Hid (Below w.heap.size w wr)) (fun iv _ => n - (RowKit.intOf iv).toNat)
  case atStart => exact ⟨0, rfl, by omega, Lib.hid (fun h hh => by simp at hh), Lib.hid (Below.refl _ _)⟩
  case round =>
    obtain ⟨k, rfl, hkn, HNO, HB⟩ := hrel
    by_cases hlk : k < n
    · have hkl : k < l.length := by rw [← HN.out]; exact hlk
      obtain ⟨b, o, rfl, hb, hcc⟩ := HCS.out (by omega)
      have hcell := fun j (hj : j < 3) => (HB.out.cell (p := ⟨b, o + k * 3 + j, none⟩) hb).trans (hcc k hkl j hj)
      have HYES : Hid (l[k].sec = id ∧ l[k].who = who → res = l[k].amt) := Lib.hid fun h => by
        have e : l = l.take k ++ l[k] :: l.drop (k + 1) := by rw [← List.drop_eq_getElem_cons hkl, List.take_append_drop]
        have e2 : firstH id who l = firstH id who (l.take k ++ l[k] :: l.drop (k + 1)) := congrArg _ e
        rw [HRES.out, e2, firstH_app HNO.out, if_pos h]
      have HNXT : Hid (¬ (l[k].sec = id ∧ l[k].who = who) → ∀ h ∈ l.take (k + 1), ¬ (h.sec = id ∧ h.who = who)) := Lib.hid fun hn h hh => by
        rw [List.take_succ_eq_append_getElem hkl, List.mem_append] at hh
        rcases hh with hh | hh
        · exact HNO.out h hh
        · rw [List.mem_singleton] at hh; rw [hh]; exact hn
      generalize l[k] = x at *
      obtain ⟨xa, xb, xc⟩ := x
      simp only at HYES HNXT
      clear hcc
      have c0 := hcell 0 (by omega)
      have c1 := hcell 1 (by omega)
      have c2 := hcell 2 (by omega)
      simp [hldC] at c0 c1 c2
      have hk0 : (0 : Int) ≤ (k : Int) := by omega
      have hk1 : (k : Int) < (n : Int) := by omega
      have HBP := Lib.hid (HB.out.alloc HB.out.size (.cells #[.int .i64 xa, .int .i64 xb, .int .i64 xc] 53))
      clear hcell
      by_cases h1 : xa = id
      · subst h1
        by_cases h2 : xb = who
        · subst h2
          have hr := HYES.out (by first | exact ⟨rfl, rfl⟩ | simp)
          subst hr
          go_wp2
          go_ret
          exact ⟨rfl, HBP.out⟩
        · have HN2 := Lib.hid (HNXT.out (fun h => h2 (by simpa using h)))
          have hbe : (xb == who) = false := beq_eq_false_iff_ne.2 h2
          clear HYES HNXT
          go_wp2
          go_roundw
          case rel => exact ⟨k + 1, by first | rfl | go_num, by omega, HN2, HBP⟩
          case measure => simp [RowKit.intOf]; omega
      · have HN2 := Lib.hid (HNXT.out (fun h => h1 h.1))
        have hbe : (xa == id) = false := beq_eq_false_iff_ne.2 h1
        clear HYES HNXT
        go_wp2
        go_roundw
        case rel => exact ⟨k + 1, by first | rfl | go_num, by omega, HN2, HBP⟩
        case measure => simp [RowKit.intOf]; omega
    · obtain rfl : k = n := by omega
      have hr : res = 0 := by
        rw [HRES.out]
        refine firstH_none fun h hh => HNO.out h ?_
        rw [HN.out, List.take_length]; exact hh
      subst hr
      go_wp2
      go_ret
      exact ⟨rfl, HB.out⟩

end Go.Proofs.Ytblidmkkbcobgaa

/- The register's reference: how 'set' builds a list anew, as mathematics; of no function of the program; no condition. -/
namespace Go.Proofs.Ytblidmkkbcobgaa
open Go.RowKit Go.Lib Go.Proofs

/-- A list built anew: what is there goes, what is new is put in ahead of the first greater one, or behind the end, unless it was put in already. -/
def setR (id who n : Int) : Bool → List Hld → List Hld
  | p, [] => if p then [] else [⟨id, who, n⟩]
  | p, h :: l => if h.sec = id ∧ h.who = who then setR id who n p l else if p = false ∧ (id < h.sec ∨ (h.sec = id ∧ who < h.who)) then ⟨id, who, n⟩ :: h :: setR id who n true l else h :: setR id who n p l
theorem setR_true {id who n : Int} : ∀ {l : List Hld}, (∀ h ∈ l, ¬ (h.sec = id ∧ h.who = who)) → setR id who n true l = l
  | [], _ => rfl
  | h :: l, hn => by
    unfold setR
    rw [if_neg (hn h List.mem_cons_self), if_neg (by simp), setR_true fun y hy => hn y (List.mem_cons_of_mem _ hy)]
theorem setR_false {id who n : Int} : ∀ {l : List Hld}, (∀ h ∈ l, hlt ⟨id, who, 0⟩ h) → setR id who n false l = ⟨id, who, n⟩ :: l
  | [], _ => rfl
  | h :: l, hn => by
    have h1 := hn h List.mem_cons_self
    unfold hlt at h1
    simp only at h1
    unfold setR
    rw [if_neg (by omega), if_pos ⟨rfl, by omega⟩, setR_true fun y hy => by
      have h2 := hn y (List.mem_cons_of_mem _ hy)
      unfold hlt at h2
      simp only at h2
      omega]
theorem setR_eq {id who n : Int} : ∀ {l : List Hld}, l.Pairwise hlt → setR id who (heldM l id who + n) (decide (heldM l id who + n = 0)) l = setM id who n l
  | [], _ => by
    unfold setR setM heldM sumH
    simp only [Int.zero_add]
    by_cases h0 : n = 0
    · rw [decide_eq_true h0, if_pos rfl, if_pos h0]
    · rw [decide_eq_false h0, if_neg (by simp), if_neg h0]
  | h :: l, hp => by
    have hp2 := List.pairwise_cons.1 hp
    have ih := setR_eq (id := id) (who := who) (n := n) hp2.2
    by_cases h1 : h.sec < id ∨ (h.sec = id ∧ h.who < who)
    · have e1 : isAt id who h = false := by
        unfold isAt
        rcases h1 with h1 | h1
        · rw [beq_eq_false_iff_ne.2 (show h.sec ≠ id by omega), Bool.false_and]
        · rw [beq_eq_false_iff_ne.2 (show h.who ≠ who by omega), Bool.and_false]
      have e2 : heldM (h :: l) id who = heldM l id who := by unfold heldM; simp [sumH, e1]
      rw [e2]
      unfold setR setM
      rw [if_pos h1, if_neg (by omega), if_neg (by omega), ih]
    · by_cases h2 : h.sec = id ∧ h.who = who
      · have hgt : ∀ k ∈ l, hlt ⟨id, who, 0⟩ k := fun k hk => by
          have h3 := hp2.1 k hk
          unfold hlt at h3 ⊢
          simp only
          omega
        have hno : ∀ k ∈ l, ¬ (k.sec = id ∧ k.who = who) := fun k hk => by
          have h3 := hgt k hk
          unfold hlt at h3
          simp only at h3
          omega
        have e1 : isAt id who h = true := by simp [isAt, h2.1, h2.2]
        have e2 : heldM (h :: l) id who = h.amt := by
          have h3 := heldM_low hgt
          unfold heldM at h3 ⊢
          simp [sumH, e1, h3]
        rw [e2]
        unfold setR setM
        rw [if_neg h1, if_pos h2, if_pos h2]
        by_cases h0 : h.amt + n = 0
        · rw [decide_eq_true h0, if_pos h0, setR_true hno]
        · rw [decide_eq_false h0, if_neg h0, setR_false hgt]
      · have hgt : ∀ k ∈ h :: l, hlt ⟨id, who, 0⟩ k := fun k hk => by
          rcases List.mem_cons.1 hk with rfl | hk
          · unfold hlt; simp only; omega
          · have h3 := hp2.1 k hk
            unfold hlt at h3 ⊢
            simp only
            omega
        have hno : ∀ k ∈ l, ¬ (k.sec = id ∧ k.who = who) := fun k hk => by
          have h3 := hgt k (List.mem_cons_of_mem _ hk)
          unfold hlt at h3
          simp only at h3
          omega
        have e2 := heldM_low hgt
        rw [e2, Int.zero_add]
        unfold setM
        rw [if_neg h1, if_neg h2]
        by_cases h0 : n = 0
        · rw [decide_eq_true h0, if_pos h0]
          exact setR_true fun k hk => by
            have h3 := hgt k hk
            unfold hlt at h3
            simp only at h3
            omega
        · rw [decide_eq_false h0, if_neg h0]
          exact setR_false hgt

end Go.Proofs.Ytblidmkkbcobgaa
