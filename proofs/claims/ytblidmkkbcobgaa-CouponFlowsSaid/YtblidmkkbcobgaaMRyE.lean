/- The register's reference: move. -/
import Derived.Test.YtblidmkkbcobgaaMRyD
import Derived.Test.YtblidmkkbcobgaaMRhH
import Derived.Deep.RegionHeld3
set_option linter.unusedSimpArgs false
set_option linter.unusedVariables false
set_option linter.unusedSimpArgs false
set_option linter.unusedVariables false
namespace Go.Proofs.Ytblidmkkbcobgaa
open Go.RowKit Go.Lib Go.Proofs

theorem ryset_asc (l : List Hld) (id who by' : Int) (v : Value) (w : World) (hl : ListAt hldC 3 w v l) (hlen : l.length ≤ 1000000) (ha : l.Pairwise hlt) (hb : -9000000000000000000 ≤ heldM l id who + by' ∧ heldM l id who + by' ≤ 9000000000000000000) :
    Calls Try.prog 130 #[v, .int .i64 id, .int .i64 who, .int .i64 by'] w fun e w' => ∃ v', e = .returned v' ∧ w'.ownsRow w.heap.size 53 3 v' (setM id who by' l).length (cellsL hldC (setM id who by' l)) ∧ Below w.heap.size w w' := by
  have h := ryset_any l id who by' v w hl hlen (by rw [firstH_eq ha]; exact hb)
  rw [firstH_eq ha, setR_eq ha] at h
  exact h
theorem endsB_1 (nu da se fr tt am : Int) : endsB ⟨nu, da, 1, se, fr, tt, am⟩ = decide (fr = 0 ∧ 1 ≤ tt ∧ tt ≤ 1000) := by unfold endsB; simp
theorem endsB_2 (nu da se fr tt am : Int) : endsB ⟨nu, da, 2, se, fr, tt, am⟩ = decide (1 ≤ fr ∧ fr ≤ 1000 ∧ 1 ≤ tt ∧ tt ≤ 1000 ∧ fr ≠ tt) := by unfold endsB; simp
theorem endsB_3 (nu da se fr tt am : Int) : endsB ⟨nu, da, 3, se, fr, tt, am⟩ = decide (1 ≤ fr ∧ fr ≤ 1000 ∧ tt = 0) := by unfold endsB; simp
def MovePost (w w' : World) (u : Value) (res : Int) (lc : List Hld) : Prop := (res = 0 → w'.ownsRow w.heap.size 53 3 u lc.length (cellsL hldC lc)) ∧ (res ≠ 0 → u = .slice none 0 0)
theorem MovePost.bad {w w' : World} {res : Int} {lc : List Hld} (h : res ≠ 0) : MovePost w w' (.slice none 0 0) res lc := ⟨fun q => absurd q h, fun _ => rfl⟩
theorem MovePost.good {w w' : World} {u : Value} {lc : List Hld} (h : w'.ownsRow w.heap.size 53 3 u lc.length (cellsL hldC lc)) : MovePost w w' u 0 lc := ⟨fun _ => h, fun q => absurd rfl q⟩
/-- What a kind asks of the ends. -/
def kindOk (m : Mv) : Prop := (m.kind = 1 ∧ m.frm = 0) ∨ m.kind = 2 ∨ (m.kind = 3 ∧ m.to = 0)

set_option maxHeartbeats 16000000 in
set_option maxRecDepth 100000 in
theorem rymove_1 (secs : List Sec) (l : List Hld) (bd nu da se tt am : Int) (x y z v : Value) (w : World) (hs : ListAt Sec.cells 7 w x secs) (hsl : secs.length ≤ 1000000) (hu : ∀ s ∈ secs, 1 ≤ s.unit ∧ 1 ≤ s.id ∧ s.id ≤ 1000 ∧ s.mat ≤ 36000)
    (hl : ListAt hldC 3 w v l) (hll : l.length ≤ 900000) (hok : HsI l) :
    Calls Try.prog 108 #[.agg #[x, y, z], v, .int .i64 bd, .agg #[.int .i64 nu, .int .i64 da, .int .i64 1, .int .i64 se, .int .i64 0, .int .i64 tt, .int .i64 am]] w fun e w' => ∃ u, e = .returned (.tuple #[u, .int .i64 (faultM secs l bd ⟨nu, da, 1, se, 0, tt, am⟩)]) ∧ MovePost w w' u (faultM secs l bd ⟨nu, da, 1, se, 0, tt, am⟩) (carryM l ⟨nu, da, 1, se, 0, tt, am⟩) ∧ Below w.heap.size w w' := by
  obtain ⟨res, hres⟩ : ∃ res, res = faultM secs l bd ⟨nu, da, 1, se, 0, tt, am⟩ := ⟨_, rfl⟩
  obtain ⟨lc, hlc⟩ : ∃ lc, lc = carryM l ⟨nu, da, 1, se, 0, tt, am⟩ := ⟨_, rfl⟩
  have HMV : Hid (res = 0 → ∃ s, MvOk secs l bd ⟨nu, da, 1, se, 0, tt, am⟩ s) := Lib.hid fun h => fault_zero (fun s hs => (hu s hs).2.2.2) (hres.symm.trans h)
  have HLC := Lib.hid hlc
  rw [← hres, ← hlc]
  clear hlc
  obtain ⟨W1, hW1⟩ : ∃ W1, W1 = (w.alloc (.cells #[x, y, z] 29)).alloc (.cells #[.int .i64 nu, .int .i64 da, .int .i64 1, .int .i64 se, .int .i64 0, .int .i64 tt, .int .i64 am] 104) := ⟨_, rfl⟩
  have hB1 : Below w.heap.size w W1 := by rw [hW1]; exact below2 w _ _
  have A0 : W1.heap[w.heap.size]? = some (.cells #[x, y, z] 29 (0, 0)) := by rw [hW1]; exact alloc1_at w _ _
  have A1 : W1.heap[w.heap.size + 1]? = some (.cells #[.int .i64 nu, .int .i64 da, .int .i64 1, .int .i64 se, .int .i64 0, .int .i64 tt, .int .i64 am] 104 (0, 0)) := by rw [hW1]; exact alloc2_at w _ _
  have HFI := Lib.hid (ryFind_any secs se x y z W1 (hs.below hB1) hsl)
  have HHO := Lib.hid (fun n W => ryholder_any n W)
  have HL := Lib.hid hl
  have HOK := Lib.hid hok
  have HLL := Lib.hid hll
  have HU := Lib.hid hu
  have HB1 := Lib.hid hB1
  have HM : Hid (∀ W, Below W1.heap.size W1 W → W.heap[w.heap.size + 1]? = some (.cells #[.int .i64 nu, .int .i64 da, .int .i64 1, .int .i64 se, .int .i64 0, .int .i64 tt, .int .i64 am] 104 (0, 0))) := Lib.hid fun W hW => obj_below A1 hW
  unfold faultM at hres
  simp only at hres
  have a00 := obj_cell A0 0
  have a01 := obj_cell A0 1
  have a02 := obj_cell A0 2
  have a23 := obj_cell A1 3
  simp at a00 a01 a02 a23
  clear A0 A1 hs hl hll hok hsl hB1
  generalize hf : findS se secs = fo at hres HFI
  cases fo with
  | none =>
    simp only at hres
    simp only [Option.getD_none, Option.isSome_none, Sec.zero, Sec.cells] at HFI
    have HRES := Lib.hid hres
    clear hf hres hu
    go_enter Try.func108, Try.ntmps108
    go_upto_region 1 with fail
    rw [← hW1]
    clear hW1
    go_wp2_with fail
    refine Calls.mono HFI.out ?_
    rintro e x7 ⟨rfl, b7⟩
    have HJ7 : Hid (Below w.heap.size w x7) := Lib.hid (HB1.out.trans (b7.mono HB1.out.size))
    obtain rfl : res = 76 := HRES.out
    clear b7
    go_wp2
    go_ret2
    exact ⟨_, rfl, MovePost.bad (by decide), HJ7.out.alloc HJ7.out.size _⟩
  | some s =>
    have hu1 := (hu s (findS_id hf).2).1
    obtain ⟨s0, s1, s2, s3, s4, s5, s6⟩ := s
    simp only at hres hu1
    simp only [Option.getD_some, Option.isSome_some, Sec.cells] at HFI
    clear hf hu
    have hne : s1 ≠ 0 := by omega
    rw [faultS_L (L := s3) (by simp)] at hres
    simp only at hres
    have HRES := Lib.hid hres
    clear hres
    go_enter Try.func108, Try.ntmps108
    go_upto_region 1 with fail
    rw [← hW1]
    clear hW1
    go_wp2_with fail
    refine Calls.mono HFI.out ?_
    rintro e x7 ⟨rfl, b7⟩
    obtain ⟨W2, hW2⟩ : ∃ W2, W2 = x7.alloc (.cells #[.int .i64 s0, .int .i64 s1, .int .i64 s2, .int .i64 s3, .int .i64 s4, .int .i64 s5, .bool s6] 55) := ⟨_, rfl⟩
    have hB2 : Below W1.heap.size W1 W2 := by rw [hW2]; exact b7.alloc b7.size _
    have HJ2 : Hid (Below w.heap.size w W2) := Lib.hid (HB1.out.trans (hB2.mono HB1.out.size))
    have hS : W2.heap[x7.heap.size]? = some (.cells #[.int .i64 s0, .int .i64 s1, .int .i64 s2, .int .i64 s3, .int .i64 s4, .int .i64 s5, .bool s6] 55 (0, 0)) := by rw [hW2]; exact heap_alloc_new x7 _
    have HA2 := Lib.hid (HM.out W2 hB2)
    have hA2 := HA2.out
    have m1 := obj_cell hA2 1
    have m2 := obj_cell hA2 2
    have m3 := obj_cell hA2 3
    have m4 := obj_cell hA2 4
    have m5 := obj_cell hA2 5
    have m6 := obj_cell hA2 6
    have q1 := obj_cell hS 1
    have q2 := obj_cell hS 2
    have q3 := obj_cell hS 3
    simp at m1 m2 m3 m4 m5 m6 q1 q2 q3
    clear hS hB2 b7 a00 a01 a02 a23 hA2
    go_upto_region 2 with fail
    rw [← hW2]
    clear hW2
    go_upto_region 7 with fail
    by_cases d1 : da < bd
    · obtain rfl : res = 8 := HRES.out.trans (if_pos (Or.inl d1))
      go_wp2
      go_ret2
      exact ⟨_, rfl, MovePost.bad (by decide), HJ2.out⟩
    by_cases d2 : da < s2
    · obtain rfl : res = 8 := HRES.out.trans (if_pos (Or.inr (Or.inl d2)))
      go_wp2
      go_ret2
      exact ⟨_, rfl, MovePost.bad (by decide), HJ2.out⟩
    by_cases d3 : s3 < da
    · obtain rfl : res = 8 := HRES.out.trans (if_pos (Or.inr (Or.inr d3)))
      go_wp2
      go_ret2
      exact ⟨_, rfl, MovePost.bad (by decide), HJ2.out⟩
    rw [if_neg (by omega)] at HRES
    go_upto_region 9 with fail
    by_cases a1 : am < 1
    · obtain rfl : res = 79 := HRES.out.trans (if_pos (Or.inl a1))
      go_wp2
      go_ret2
      exact ⟨_, rfl, MovePost.bad (by decide), HJ2.out⟩
    by_cases a2 : 1000000000000 < am
    · obtain rfl : res = 79 := HRES.out.trans (if_pos (Or.inr (Or.inl a2)))
      go_wp2
      go_ret2
      exact ⟨_, rfl, MovePost.bad (by decide), HJ2.out⟩
    have hrb : 0 ≤ am.tmod s1 ∧ am.tmod s1 ≤ am := ⟨Int.tmod_nonneg s1 (by omega), by
      rw [Int.tmod_eq_emod_of_nonneg (by omega)]
      have h1 := Int.mul_ediv_add_emod am s1
      have h2 : 0 ≤ s1 * (am / s1) := Int.mul_nonneg (by omega) (Int.ediv_nonneg (by omega) (by omega))
      omega⟩
    have hrw : IntKind.i64.wrap (am.tmod s1) = am.tmod s1 := by rw [IntKind.wrap_i64]; omega
    by_cases r1 : am.tmod s1 = 0
    case neg =>
      have hbn : (am.tmod s1 != 0) = true := by simpa using r1
      have hbo : (am % s1 != 0) = true := by rw [← Int.tmod_eq_emod_of_nonneg (by omega)]; exact hbn
      obtain rfl : res = 79 := HRES.out.trans (if_pos (Or.inr (Or.inr r1)))
      go_wp2
      go_ret2
      exact ⟨_, rfl, MovePost.bad (by decide), HJ2.out⟩
    rw [if_neg (fun h => h.elim (fun h => a1 h) (fun h => h.elim (fun h => a2 h) (fun h => h r1)))] at HRES
    go_upto_region 11 with fail
    go_region
    go_upto_region 12 with fail

    obtain ⟨bt, hbt⟩ : ∃ bt, bt = inB tt 1 1000 := ⟨_, rfl⟩
    have HBT := Lib.hid hbt
    have HT := Lib.hid (fun W => ryholder_any tt W)
    rw [← hbt] at HT
    clear hbt
    cases bt with
    | false =>
      have hen : endsB ⟨nu, da, 1, se, 0, tt, am⟩ = false := by
        have h1 := inB_false.1 HBT.out.symm
        rw [endsB_1]
        exact decide_eq_false (fun h => h1 ⟨h.2.1, h.2.2⟩)
      obtain rfl : res = 6 := HRES.out.trans (if_pos hen)
      clear hen
      go_wp2_with (first | (go_at_call 128; with_reducible refine Calls.mono (HT.out _) ?_; rintro e w9 ⟨rfl, rfl⟩))
      go_ret2
      exact ⟨_, rfl, MovePost.bad (by decide), HJ2.out.drew⟩
    | true =>
    have htb := inB_true.1 HBT.out.symm
    have hen : endsB ⟨nu, da, 1, se, 0, tt, am⟩ = true := by
      rw [endsB_1]
      exact decide_eq_true ⟨rfl, htb⟩
    rw [if_neg (by rw [hen]; decide)] at HRES
    clear hen
    go_upto_region 14 with (first | (go_at_call 128; with_reducible refine Calls.mono (HT.out _) ?_; rintro e w9 ⟨rfl, rfl⟩))
    have HJ3 : Hid (Below w.heap.size w W2.drew) := Lib.hid HJ2.out.drew
    have HA3 : Hid (W2.drew.heap[w.heap.size + 1]? = some (.cells #[.int .i64 nu, .int .i64 da, .int .i64 1, .int .i64 se, .int .i64 0, .int .i64 tt, .int .i64 am] 104 (0, 0))) := Lib.hid HA2.out
    generalize W2.drew = W3 at HJ3 HA3 ⊢
    clear m1 m2 m3 m4 m5 m6 q1 q2 q3 HJ2 HA2
    have HCE : Hid (∀ W, Below W3.heap.size W3 W → W.cell? ⟨w.heap.size + 1, 0, none⟩ = some (.int .i64 nu) ∧ W.cell? ⟨w.heap.size + 1, 1, none⟩ = some (.int .i64 da) ∧ W.cell? ⟨w.heap.size + 1, 2, none⟩ = some (.int .i64 1) ∧ W.cell? ⟨w.heap.size + 1, 3, none⟩ = some (.int .i64 se) ∧ W.cell? ⟨w.heap.size + 1, 4, none⟩ = some (.int .i64 0) ∧ W.cell? ⟨w.heap.size + 1, 5, none⟩ = some (.int .i64 tt) ∧ W.cell? ⟨w.heap.size + 1, 6, none⟩ = some (.int .i64 am)) := Lib.hid fun W hW => by
      have h1 := obj_below HA3.out hW
      exact ⟨obj_cell h1 0, obj_cell h1 1, obj_cell h1 2, obj_cell h1 3, obj_cell h1 4, obj_cell h1 5, obj_cell h1 6⟩
    obtain ⟨m0, m1, m2, m3, m4, m5, m6⟩ := HCE.out W3 (Below.refl _ _)
    have hcs : (fun W : World => W.cell? ⟨w.heap.size + 1, 0, none⟩ = some (.int .i64 nu) ∧ W.cell? ⟨w.heap.size + 1, 1, none⟩ = some (.int .i64 da) ∧ W.cell? ⟨w.heap.size + 1, 2, none⟩ = some (.int .i64 1) ∧ W.cell? ⟨w.heap.size + 1, 3, none⟩ = some (.int .i64 se) ∧ W.cell? ⟨w.heap.size + 1, 4, none⟩ = some (.int .i64 0) ∧ W.cell? ⟨w.heap.size + 1, 5, none⟩ = some (.int .i64 tt) ∧ W.cell? ⟨w.heap.size + 1, 6, none⟩ = some (.int .i64 am)) W3 := ⟨m0, m1, m2, m3, m4, m5, m6⟩
    simp only at hcs
    obtain ⟨outs, houts⟩ : ∃ outs, outs = outM l se := ⟨_, rfl⟩
    have HOU : Hid (∀ W, Below w.heap.size w W → Calls Try.prog 129 #[v, .int .i64 se] W fun e w' => e = .returned (.int .i64 outs) ∧ Below W.heap.size W w') := Lib.hid fun W hW => by
      rw [houts]
      exact ryoutstanding_any l se v W (HL.out.below hW) (by have := HLL.out; omega) (sumB_ok HOK.out.ok.ok (by have := HLL.out; omega))
    obtain ⟨ho0, ho1⟩ : 0 ≤ outs ∧ outs ≤ 1000000000000000000 := by
      have := sumH_bound (p := isOf se) HOK.out.ok.ok; have := HLL.out; rw [houts]; unfold outM; omega
    rw [← houts] at HRES
    clear houts
    rw [if_neg (fun h => h.1 rfl)] at HRES
    have how : IntKind.i64.wrap (outs + am) = outs + am := by rw [IntKind.wrap_i64]; omega
    go_region
    go_upto_region 16 with fail
    go_region_held3 (fun W => W.cell? ⟨w.heap.size + 1, 0, none⟩ = some (.int .i64 nu) ∧ W.cell? ⟨w.heap.size + 1, 1, none⟩ = some (.int .i64 da) ∧ W.cell? ⟨w.heap.size + 1, 2, none⟩ = some (.int .i64 1) ∧ W.cell? ⟨w.heap.size + 1, 3, none⟩ = some (.int .i64 se) ∧ W.cell? ⟨w.heap.size + 1, 4, none⟩ = some (.int .i64 0) ∧ W.cell? ⟨w.heap.size + 1, 5, none⟩ = some (.int .i64 tt) ∧ W.cell? ⟨w.heap.size + 1, 6, none⟩ = some (.int .i64 am)) (first | exact hcs | exact HCE.out _ HB9.out) (first | (go_at_call 129; with_reducible refine Calls.mono (HOU.out _ ((HJ3.out.drew).drew)) ?_; rintro e x9 ⟨rfl, b9⟩; have HB9 : Hid (Below W3.heap.size W3 x9) := Lib.hid ((((Below.refl _ _).drew).drew).trans (b9.mono (((Below.refl W3.heap.size W3).drew).drew).size)); clear b9))
    all_goals (
      have HJ9 : Hid (Below w.heap.size w x9) := Lib.hid (HJ3.out.trans (HB9.out.mono HJ3.out.size))
      clear m0 m1 m2 m3 m4 m5 m6 hcs
      obtain ⟨m0, m1, m2, m3, m4, m5, m6⟩ := HCE.out x9 HB9.out
      by_cases o1 : 1000000000000 < outs + am
      · obtain rfl : res = 2 := HRES.out.trans (if_pos ⟨by first | rfl | trivial, o1⟩)
        go_wp2
        go_ret2
        exact ⟨_, rfl, MovePost.bad (by decide), HJ9.out⟩
      · obtain rfl : res = 0 := HRES.out.trans (if_neg (fun h => o1 h.2))
        obtain ⟨s, hm⟩ := HMV.out rfl
        have HST : Hid (Calls Try.prog 130 #[v, .int .i64 se, .int .i64 tt, .int .i64 am] x9 fun e w' => ∃ v', e = .returned v' ∧ w'.ownsRow x9.heap.size 53 3 v' lc.length (cellsL hldC lc) ∧ Below x9.heap.size x9 w') := Lib.hid (by
          have e1 : lc = setM se tt am l := by rw [HLC.out]; rfl
          rw [e1]
          have hb := sumH_bound (p := isAt se tt) HOK.out.ok.ok
          exact ryset_asc l se tt am v x9 (HL.out.below HJ9.out) (by have := HLL.out; omega) HOK.out.ok.asc (by have := HLL.out; unfold heldM; omega))
        clear hm
        go_wp2_with fail
        with_reducible refine Calls.mono HST.out ?_
        rintro e x10 ⟨u, rfl, hown, b10⟩
        have HFIN := Lib.hid (ownsRow_mono hown HJ9.out.size)
        have HJ10 := Lib.hid (HJ9.out.trans (b10.mono HJ9.out.size))
        clear hown b10
        go_wp2
        go_ret2
        exact ⟨_, rfl, MovePost.good HFIN.out, HJ10.out⟩)


set_option maxHeartbeats 16000000 in
set_option maxRecDepth 100000 in
theorem rymove_2 (secs : List Sec) (l : List Hld) (bd nu da se fr tt am : Int) (x y z v : Value) (w : World) (hs : ListAt Sec.cells 7 w x secs) (hsl : secs.length ≤ 1000000) (hu : ∀ s ∈ secs, 1 ≤ s.unit ∧ 1 ≤ s.id ∧ s.id ≤ 1000 ∧ s.mat ≤ 36000)
    (hl : ListAt hldC 3 w v l) (hll : l.length ≤ 900000) (hok : HsI l) :
    Calls Try.prog 108 #[.agg #[x, y, z], v, .int .i64 bd, .agg #[.int .i64 nu, .int .i64 da, .int .i64 2, .int .i64 se, .int .i64 fr, .int .i64 tt, .int .i64 am]] w fun e w' => ∃ u, e = .returned (.tuple #[u, .int .i64 (faultM secs l bd ⟨nu, da, 2, se, fr, tt, am⟩)]) ∧ MovePost w w' u (faultM secs l bd ⟨nu, da, 2, se, fr, tt, am⟩) (carryM l ⟨nu, da, 2, se, fr, tt, am⟩) ∧ Below w.heap.size w w' := by
  obtain ⟨res, hres⟩ : ∃ res, res = faultM secs l bd ⟨nu, da, 2, se, fr, tt, am⟩ := ⟨_, rfl⟩
  obtain ⟨lc, hlc⟩ : ∃ lc, lc = carryM l ⟨nu, da, 2, se, fr, tt, am⟩ := ⟨_, rfl⟩
  have HMV : Hid (res = 0 → ∃ s, MvOk secs l bd ⟨nu, da, 2, se, fr, tt, am⟩ s) := Lib.hid fun h => fault_zero (fun s hs => (hu s hs).2.2.2) (hres.symm.trans h)
  have HLC := Lib.hid hlc
  rw [← hres, ← hlc]
  clear hlc
  obtain ⟨W1, hW1⟩ : ∃ W1, W1 = (w.alloc (.cells #[x, y, z] 29)).alloc (.cells #[.int .i64 nu, .int .i64 da, .int .i64 2, .int .i64 se, .int .i64 fr, .int .i64 tt, .int .i64 am] 104) := ⟨_, rfl⟩
  have hB1 : Below w.heap.size w W1 := by rw [hW1]; exact below2 w _ _
  have A0 : W1.heap[w.heap.size]? = some (.cells #[x, y, z] 29 (0, 0)) := by rw [hW1]; exact alloc1_at w _ _
  have A1 : W1.heap[w.heap.size + 1]? = some (.cells #[.int .i64 nu, .int .i64 da, .int .i64 2, .int .i64 se, .int .i64 fr, .int .i64 tt, .int .i64 am] 104 (0, 0)) := by rw [hW1]; exact alloc2_at w _ _
  have HFI := Lib.hid (ryFind_any secs se x y z W1 (hs.below hB1) hsl)
  have HHO := Lib.hid (fun n W => ryholder_any n W)
  have HL := Lib.hid hl
  have HOK := Lib.hid hok
  have HLL := Lib.hid hll
  have HU := Lib.hid hu
  have HB1 := Lib.hid hB1
  have HM : Hid (∀ W, Below W1.heap.size W1 W → W.heap[w.heap.size + 1]? = some (.cells #[.int .i64 nu, .int .i64 da, .int .i64 2, .int .i64 se, .int .i64 fr, .int .i64 tt, .int .i64 am] 104 (0, 0))) := Lib.hid fun W hW => obj_below A1 hW
  unfold faultM at hres
  simp only at hres
  have a00 := obj_cell A0 0
  have a01 := obj_cell A0 1
  have a02 := obj_cell A0 2
  have a23 := obj_cell A1 3
  simp at a00 a01 a02 a23
  clear A0 A1 hs hl hll hok hsl hB1
  generalize hf : findS se secs = fo at hres HFI
  cases fo with
  | none =>
    simp only at hres
    simp only [Option.getD_none, Option.isSome_none, Sec.zero, Sec.cells] at HFI
    have HRES := Lib.hid hres
    clear hf hres hu
    go_enter Try.func108, Try.ntmps108
    go_upto_region 1 with fail
    rw [← hW1]
    clear hW1
    go_wp2_with fail
    refine Calls.mono HFI.out ?_
    rintro e x7 ⟨rfl, b7⟩
    have HJ7 : Hid (Below w.heap.size w x7) := Lib.hid (HB1.out.trans (b7.mono HB1.out.size))
    obtain rfl : res = 76 := HRES.out
    clear b7
    go_wp2
    go_ret2
    exact ⟨_, rfl, MovePost.bad (by decide), HJ7.out.alloc HJ7.out.size _⟩
  | some s =>
    have hu1 := (hu s (findS_id hf).2).1
    obtain ⟨s0, s1, s2, s3, s4, s5, s6⟩ := s
    simp only at hres hu1
    simp only [Option.getD_some, Option.isSome_some, Sec.cells] at HFI
    clear hf hu
    have hne : s1 ≠ 0 := by omega
    rw [faultS_L (L := s3) (by simp)] at hres
    simp only at hres
    have HRES := Lib.hid hres
    clear hres
    go_enter Try.func108, Try.ntmps108
    go_upto_region 1 with fail
    rw [← hW1]
    clear hW1
    go_wp2_with fail
    refine Calls.mono HFI.out ?_
    rintro e x7 ⟨rfl, b7⟩
    obtain ⟨W2, hW2⟩ : ∃ W2, W2 = x7.alloc (.cells #[.int .i64 s0, .int .i64 s1, .int .i64 s2, .int .i64 s3, .int .i64 s4, .int .i64 s5, .bool s6] 55) := ⟨_, rfl⟩
    have hB2 : Below W1.heap.size W1 W2 := by rw [hW2]; exact b7.alloc b7.size _
    have HJ2 : Hid (Below w.heap.size w W2) := Lib.hid (HB1.out.trans (hB2.mono HB1.out.size))
    have hS : W2.heap[x7.heap.size]? = some (.cells #[.int .i64 s0, .int .i64 s1, .int .i64 s2, .int .i64 s3, .int .i64 s4, .int .i64 s5, .bool s6] 55 (0, 0)) := by rw [hW2]; exact heap_alloc_new x7 _
    have HA2 := Lib.hid (HM.out W2 hB2)
    have hA2 := HA2.out
    have m1 := obj_cell hA2 1
    have m2 := obj_cell hA2 2
    have m3 := obj_cell hA2 3
    have m4 := obj_cell hA2 4
    have m5 := obj_cell hA2 5
    have m6 := obj_cell hA2 6
    have q1 := obj_cell hS 1
    have q2 := obj_cell hS 2
    have q3 := obj_cell hS 3
    simp at m1 m2 m3 m4 m5 m6 q1 q2 q3
    clear hS hB2 b7 a00 a01 a02 a23 hA2
    go_upto_region 2 with fail
    rw [← hW2]
    clear hW2
    go_upto_region 7 with fail
    by_cases d1 : da < bd
    · obtain rfl : res = 8 := HRES.out.trans (if_pos (Or.inl d1))
      go_wp2
      go_ret2
      exact ⟨_, rfl, MovePost.bad (by decide), HJ2.out⟩
    by_cases d2 : da < s2
    · obtain rfl : res = 8 := HRES.out.trans (if_pos (Or.inr (Or.inl d2)))
      go_wp2
      go_ret2
      exact ⟨_, rfl, MovePost.bad (by decide), HJ2.out⟩
    by_cases d3 : s3 < da
    · obtain rfl : res = 8 := HRES.out.trans (if_pos (Or.inr (Or.inr d3)))
      go_wp2
      go_ret2
      exact ⟨_, rfl, MovePost.bad (by decide), HJ2.out⟩
    rw [if_neg (by omega)] at HRES
    go_upto_region 9 with fail
    by_cases a1 : am < 1
    · obtain rfl : res = 79 := HRES.out.trans (if_pos (Or.inl a1))
      go_wp2
      go_ret2
      exact ⟨_, rfl, MovePost.bad (by decide), HJ2.out⟩
    by_cases a2 : 1000000000000 < am
    · obtain rfl : res = 79 := HRES.out.trans (if_pos (Or.inr (Or.inl a2)))
      go_wp2
      go_ret2
      exact ⟨_, rfl, MovePost.bad (by decide), HJ2.out⟩
    have hrb : 0 ≤ am.tmod s1 ∧ am.tmod s1 ≤ am := ⟨Int.tmod_nonneg s1 (by omega), by
      rw [Int.tmod_eq_emod_of_nonneg (by omega)]
      have h1 := Int.mul_ediv_add_emod am s1
      have h2 : 0 ≤ s1 * (am / s1) := Int.mul_nonneg (by omega) (Int.ediv_nonneg (by omega) (by omega))
      omega⟩
    have hrw : IntKind.i64.wrap (am.tmod s1) = am.tmod s1 := by rw [IntKind.wrap_i64]; omega
    by_cases r1 : am.tmod s1 = 0
    case neg =>
      have hbn : (am.tmod s1 != 0) = true := by simpa using r1
      have hbo : (am % s1 != 0) = true := by rw [← Int.tmod_eq_emod_of_nonneg (by omega)]; exact hbn
      obtain rfl : res = 79 := HRES.out.trans (if_pos (Or.inr (Or.inr r1)))
      go_wp2
      go_ret2
      exact ⟨_, rfl, MovePost.bad (by decide), HJ2.out⟩
    rw [if_neg (fun h => h.elim (fun h => a1 h) (fun h => h.elim (fun h => a2 h) (fun h => h r1)))] at HRES
    go_upto_region 11 with fail
    go_region
    go_upto_region 12 with fail

    obtain ⟨bf, hbf⟩ : ∃ bf, bf = inB fr 1 1000 := ⟨_, rfl⟩
    have HBF := Lib.hid hbf
    have HF := Lib.hid (fun W => ryholder_any fr W)
    rw [← hbf] at HF
    clear hbf
    obtain ⟨bt, hbt⟩ : ∃ bt, bt = inB tt 1 1000 := ⟨_, rfl⟩
    have HBT := Lib.hid hbt
    have HT := Lib.hid (fun W => ryholder_any tt W)
    rw [← hbt] at HT
    clear hbt
    cases bf with
    | false =>
      have hen : endsB ⟨nu, da, 2, se, fr, tt, am⟩ = false := by
        have h1 := inB_false.1 HBF.out.symm
        rw [endsB_2]
        exact decide_eq_false (fun h => h1 ⟨h.1, h.2.1⟩)
      obtain rfl : res = 6 := HRES.out.trans (if_pos hen)
      clear hen
      go_wp2_with (first | (go_at_call 128; with_reducible refine Calls.mono (HF.out _) ?_; rintro e w9 ⟨rfl, rfl⟩) | (go_at_call 128; with_reducible refine Calls.mono (HT.out _) ?_; rintro e w9 ⟨rfl, rfl⟩))
      go_ret2
      exact ⟨_, rfl, MovePost.bad (by decide), HJ2.out.drew⟩
    | true =>
    have hfb := inB_true.1 HBF.out.symm
    cases bt with
    | false =>
      have hen : endsB ⟨nu, da, 2, se, fr, tt, am⟩ = false := by
        have h1 := inB_false.1 HBT.out.symm
        rw [endsB_2]
        exact decide_eq_false (fun h => h1 ⟨h.2.2.1, h.2.2.2.1⟩)
      obtain rfl : res = 6 := HRES.out.trans (if_pos hen)
      clear hen
      go_wp2_with (first | (go_at_call 128; with_reducible refine Calls.mono (HF.out _) ?_; rintro e w9 ⟨rfl, rfl⟩) | (go_at_call 128; with_reducible refine Calls.mono (HT.out _) ?_; rintro e w9 ⟨rfl, rfl⟩))
      go_ret2
      exact ⟨_, rfl, MovePost.bad (by decide), HJ2.out.drew⟩
    | true =>
    have htb := inB_true.1 HBT.out.symm
    by_cases hft : fr = tt
    · subst hft
      have hen : endsB ⟨nu, da, 2, se, fr, fr, am⟩ = false := by
        rw [endsB_2]
        exact decide_eq_false (fun h => h.2.2.2.2 rfl)
      obtain rfl : res = 6 := HRES.out.trans (if_pos hen)
      clear hen
      have hbe : (fr == fr) = true := by simp
      go_wp2_with (first | (go_at_call 128; with_reducible refine Calls.mono (HF.out _) ?_; rintro e w9 ⟨rfl, rfl⟩) | (go_at_call 128; with_reducible refine Calls.mono (HT.out _) ?_; rintro e w9 ⟨rfl, rfl⟩))
      go_ret2
      exact ⟨_, rfl, MovePost.bad (by decide), HJ2.out.drew⟩
    have hbe : (fr == tt) = false := by simpa using hft
    have hen : endsB ⟨nu, da, 2, se, fr, tt, am⟩ = true := by
      rw [endsB_2]
      exact decide_eq_true ⟨hfb.1, hfb.2, htb.1, htb.2, hft⟩
    rw [if_neg (by rw [hen]; decide)] at HRES
    clear hen
    go_upto_region 14 with (first | (go_at_call 128; with_reducible refine Calls.mono (HF.out _) ?_; rintro e w9 ⟨rfl, rfl⟩) | (go_at_call 128; with_reducible refine Calls.mono (HT.out _) ?_; rintro e w9 ⟨rfl, rfl⟩))
    have HJ3 : Hid (Below w.heap.size w W2.drew) := Lib.hid HJ2.out.drew
    have HA3 : Hid (W2.drew.heap[w.heap.size + 1]? = some (.cells #[.int .i64 nu, .int .i64 da, .int .i64 2, .int .i64 se, .int .i64 fr, .int .i64 tt, .int .i64 am] 104 (0, 0))) := Lib.hid HA2.out
    generalize W2.drew = W3 at HJ3 HA3 ⊢
    clear m1 m2 m3 m4 m5 m6 q1 q2 q3 HJ2 HA2
    have HCE : Hid (∀ W, Below W3.heap.size W3 W → W.cell? ⟨w.heap.size + 1, 0, none⟩ = some (.int .i64 nu) ∧ W.cell? ⟨w.heap.size + 1, 1, none⟩ = some (.int .i64 da) ∧ W.cell? ⟨w.heap.size + 1, 2, none⟩ = some (.int .i64 2) ∧ W.cell? ⟨w.heap.size + 1, 3, none⟩ = some (.int .i64 se) ∧ W.cell? ⟨w.heap.size + 1, 4, none⟩ = some (.int .i64 fr) ∧ W.cell? ⟨w.heap.size + 1, 5, none⟩ = some (.int .i64 tt) ∧ W.cell? ⟨w.heap.size + 1, 6, none⟩ = some (.int .i64 am)) := Lib.hid fun W hW => by
      have h1 := obj_below HA3.out hW
      exact ⟨obj_cell h1 0, obj_cell h1 1, obj_cell h1 2, obj_cell h1 3, obj_cell h1 4, obj_cell h1 5, obj_cell h1 6⟩
    obtain ⟨m0, m1, m2, m3, m4, m5, m6⟩ := HCE.out W3 (Below.refl _ _)
    have hcs : (fun W : World => W.cell? ⟨w.heap.size + 1, 0, none⟩ = some (.int .i64 nu) ∧ W.cell? ⟨w.heap.size + 1, 1, none⟩ = some (.int .i64 da) ∧ W.cell? ⟨w.heap.size + 1, 2, none⟩ = some (.int .i64 2) ∧ W.cell? ⟨w.heap.size + 1, 3, none⟩ = some (.int .i64 se) ∧ W.cell? ⟨w.heap.size + 1, 4, none⟩ = some (.int .i64 fr) ∧ W.cell? ⟨w.heap.size + 1, 5, none⟩ = some (.int .i64 tt) ∧ W.cell? ⟨w.heap.size + 1, 6, none⟩ = some (.int .i64 am)) W3 := ⟨m0, m1, m2, m3, m4, m5, m6⟩
    simp only at hcs
    obtain ⟨held, hheld⟩ : ∃ held, held = heldM l se fr := ⟨_, rfl⟩
    have HHE : Hid (∀ W, Below w.heap.size w W → Calls Try.prog 67 #[v, .int .i64 se, .int .i64 fr] W fun e w' => e = .returned (.int .i64 held) ∧ Below W.heap.size W w') := Lib.hid fun W hW => by
      rw [hheld, ← firstH_eq HOK.out.ok.asc]
      exact ryheld_any l se fr v W (HL.out.below hW) (by have := HLL.out; omega)
    obtain ⟨ho0, ho1⟩ : 0 ≤ held ∧ held ≤ 1000000000000000000 := by
      have := sumH_bound (p := isAt se fr) HOK.out.ok.ok; have := HLL.out; rw [hheld]; unfold heldM; omega
    have HHELD := Lib.hid hheld
    rw [← hheld] at HRES
    clear hheld
    go_region_held3 (fun W => W.cell? ⟨w.heap.size + 1, 0, none⟩ = some (.int .i64 nu) ∧ W.cell? ⟨w.heap.size + 1, 1, none⟩ = some (.int .i64 da) ∧ W.cell? ⟨w.heap.size + 1, 2, none⟩ = some (.int .i64 2) ∧ W.cell? ⟨w.heap.size + 1, 3, none⟩ = some (.int .i64 se) ∧ W.cell? ⟨w.heap.size + 1, 4, none⟩ = some (.int .i64 fr) ∧ W.cell? ⟨w.heap.size + 1, 5, none⟩ = some (.int .i64 tt) ∧ W.cell? ⟨w.heap.size + 1, 6, none⟩ = some (.int .i64 am)) (first | exact hcs | exact HCE.out _ HB9.out) (first | (go_at_call 67; with_reducible refine Calls.mono (HHE.out _ (HJ3.out.drew)) ?_; rintro e x9 ⟨rfl, b9⟩; have HB9 : Hid (Below W3.heap.size W3 x9) := Lib.hid (((Below.refl _ _).drew).trans (b9.mono ((Below.refl W3.heap.size W3).drew).size)); clear b9))
    all_goals (
      have HJ9 : Hid (Below w.heap.size w x9) := Lib.hid (HJ3.out.trans (HB9.out.mono HJ3.out.size))
      clear m0 m1 m2 m3 m4 m5 m6 hcs
      obtain ⟨m0, m1, m2, m3, m4, m5, m6⟩ := HCE.out x9 HB9.out
      by_cases o1 : held < am
      · obtain rfl : res = 77 := HRES.out.trans (if_pos ⟨by decide, o1⟩)
        go_wp2
        go_ret2
        exact ⟨_, rfl, MovePost.bad (by decide), HJ9.out⟩
      · obtain rfl : res = 0 := (HRES.out.trans (if_neg (fun h => o1 h.2))).trans (if_neg (fun h => absurd h.1 (by decide)))
        obtain ⟨s, hm⟩ := HMV.out rfl
        have hid := findS_id hm.sec
        have hid2 := (HU.out s hid.2).2
        simp only at hid
        rw [hid.1] at hid2
        have HK1 : Hid (HsOk (setM se fr (-am) l)) := Lib.hid (setM_ok HOK.out.ok ⟨hid2.1, hid2.2.1⟩ hfb (by have := HHELD.out; omega) (by have := HOK.out.out se; omega))
        have HLN : Hid ((setM se fr (-am) l).length ≤ 900001) := Lib.hid (by have := setM_len se fr (-am) l; have := HLL.out; omega)
        have hneg : IntKind.i64.wrap (-am) = -am := by rw [IntKind.wrap_i64]; omega
        have HS1 : Hid (∀ W, Below w.heap.size w W → Calls Try.prog 130 #[v, .int .i64 se, .int .i64 fr, .int .i64 (-am)] W fun e w' => ∃ v', e = .returned v' ∧ w'.ownsRow W.heap.size 53 3 v' (setM se fr (-am) l).length (cellsL hldC (setM se fr (-am) l)) ∧ Below W.heap.size W w') := Lib.hid fun W hW => by
          exact ryset_asc l se fr (-am) v W (HL.out.below hW) (by have := HLL.out; omega) HOK.out.ok.asc (by have := HHELD.out; omega)
        clear hm hid hid2
        go_upto_region 16 with fail
        go_region
        go_wp2_with fail
        with_reducible refine Calls.mono (HS1.out _ HJ9.out.drew) ?_
        rintro e x10 ⟨u, rfl, hown, b10⟩

        have HJ10 := Lib.hid (HJ9.out.trans ((((Below.refl x9.heap.size x9).drew).trans b10).mono HJ9.out.size))
        have HB10 := Lib.hid (((Below.refl x9.heap.size x9).drew).trans b10)
        clear m0 m1 m2 m3 m4 m5 m6
        obtain ⟨m0, m1, m2, m3, m4, m5, m6⟩ := HCE.out x10 (HB9.out.trans (HB10.out.mono HB9.out.size))
        have HS2 : Hid (Calls Try.prog 130 #[u, .int .i64 se, .int .i64 tt, .int .i64 am] x10 fun e w' => ∃ v', e = .returned v' ∧ w'.ownsRow x10.heap.size 53 3 v' lc.length (cellsL hldC lc) ∧ Below x10.heap.size x10 w') := Lib.hid (by
          have e1 : lc = setM se tt am (setM se fr (-am) l) := by rw [HLC.out]; rfl
          rw [e1]
          have hb := sumH_bound (p := isAt se tt) HK1.out.ok
          exact ryset_asc (setM se fr (-am) l) se tt am u x10 (ListAt.owns hown) (by have := HLN.out; omega) HK1.out.asc (by have := HLN.out; unfold heldM; omega))
        clear hown b10
        go_wp2_with fail
        with_reducible refine Calls.mono HS2.out ?_
        rintro e x11 ⟨u2, rfl, hown, b11⟩
        have HFIN := Lib.hid (ownsRow_mono hown HJ10.out.size)
        have HJ11 := Lib.hid (HJ10.out.trans (b11.mono HJ10.out.size))
        clear hown b11
        go_wp2
        go_ret2
        exact ⟨_, rfl, MovePost.good HFIN.out, HJ11.out⟩)

set_option maxHeartbeats 16000000 in
set_option maxRecDepth 100000 in
theorem rymove_3 (secs : List Sec) (l : List Hld) (bd nu da se fr am : Int) (x y z v : Value) (w : World) (hs : ListAt Sec.cells 7 w x secs) (hsl : secs.length ≤ 1000000) (hu : ∀ s ∈ secs, 1 ≤ s.unit ∧ 1 ≤ s.id ∧ s.id ≤ 1000 ∧ s.mat ≤ 36000)
    (hl : ListAt hldC 3 w v l) (hll : l.length ≤ 900000) (hok : HsI l) :
    Calls Try.prog 108 #[.agg #[x, y, z], v, .int .i64 bd, .agg #[.int .i64 nu, .int .i64 da, .int .i64 3, .int .i64 se, .int .i64 fr, .int .i64 0, .int .i64 am]] w fun e w' => ∃ u, e = .returned (.tuple #[u, .int .i64 (faultM secs l bd ⟨nu, da, 3, se, fr, 0, am⟩)]) ∧ MovePost w w' u (faultM secs l bd ⟨nu, da, 3, se, fr, 0, am⟩) (carryM l ⟨nu, da, 3, se, fr, 0, am⟩) ∧ Below w.heap.size w w' := by
  obtain ⟨res, hres⟩ : ∃ res, res = faultM secs l bd ⟨nu, da, 3, se, fr, 0, am⟩ := ⟨_, rfl⟩
  obtain ⟨lc, hlc⟩ : ∃ lc, lc = carryM l ⟨nu, da, 3, se, fr, 0, am⟩ := ⟨_, rfl⟩
  have HMV : Hid (res = 0 → ∃ s, MvOk secs l bd ⟨nu, da, 3, se, fr, 0, am⟩ s) := Lib.hid fun h => fault_zero (fun s hs => (hu s hs).2.2.2) (hres.symm.trans h)
  have HLC := Lib.hid hlc
  rw [← hres, ← hlc]
  clear hlc
  obtain ⟨W1, hW1⟩ : ∃ W1, W1 = (w.alloc (.cells #[x, y, z] 29)).alloc (.cells #[.int .i64 nu, .int .i64 da, .int .i64 3, .int .i64 se, .int .i64 fr, .int .i64 0, .int .i64 am] 104) := ⟨_, rfl⟩
  have hB1 : Below w.heap.size w W1 := by rw [hW1]; exact below2 w _ _
  have A0 : W1.heap[w.heap.size]? = some (.cells #[x, y, z] 29 (0, 0)) := by rw [hW1]; exact alloc1_at w _ _
  have A1 : W1.heap[w.heap.size + 1]? = some (.cells #[.int .i64 nu, .int .i64 da, .int .i64 3, .int .i64 se, .int .i64 fr, .int .i64 0, .int .i64 am] 104 (0, 0)) := by rw [hW1]; exact alloc2_at w _ _
  have HFI := Lib.hid (ryFind_any secs se x y z W1 (hs.below hB1) hsl)
  have HHO := Lib.hid (fun n W => ryholder_any n W)
  have HL := Lib.hid hl
  have HOK := Lib.hid hok
  have HLL := Lib.hid hll
  have HU := Lib.hid hu
  have HB1 := Lib.hid hB1
  have HM : Hid (∀ W, Below W1.heap.size W1 W → W.heap[w.heap.size + 1]? = some (.cells #[.int .i64 nu, .int .i64 da, .int .i64 3, .int .i64 se, .int .i64 fr, .int .i64 0, .int .i64 am] 104 (0, 0))) := Lib.hid fun W hW => obj_below A1 hW
  unfold faultM at hres
  simp only at hres
  have a00 := obj_cell A0 0
  have a01 := obj_cell A0 1
  have a02 := obj_cell A0 2
  have a23 := obj_cell A1 3
  simp at a00 a01 a02 a23
  clear A0 A1 hs hl hll hok hsl hB1
  generalize hf : findS se secs = fo at hres HFI
  cases fo with
  | none =>
    simp only at hres
    simp only [Option.getD_none, Option.isSome_none, Sec.zero, Sec.cells] at HFI
    have HRES := Lib.hid hres
    clear hf hres hu
    go_enter Try.func108, Try.ntmps108
    go_upto_region 1 with fail
    rw [← hW1]
    clear hW1
    go_wp2_with fail
    refine Calls.mono HFI.out ?_
    rintro e x7 ⟨rfl, b7⟩
    have HJ7 : Hid (Below w.heap.size w x7) := Lib.hid (HB1.out.trans (b7.mono HB1.out.size))
    obtain rfl : res = 76 := HRES.out
    clear b7
    go_wp2
    go_ret2
    exact ⟨_, rfl, MovePost.bad (by decide), HJ7.out.alloc HJ7.out.size _⟩
  | some s =>
    have hu1 := (hu s (findS_id hf).2).1
    obtain ⟨s0, s1, s2, s3, s4, s5, s6⟩ := s
    simp only at hres hu1
    simp only [Option.getD_some, Option.isSome_some, Sec.cells] at HFI
    clear hf hu
    have hne : s1 ≠ 0 := by omega
    rw [faultS_L (L := 36000) (by simp)] at hres
    simp only at hres
    have HRES := Lib.hid hres
    clear hres
    go_enter Try.func108, Try.ntmps108
    go_upto_region 1 with fail
    rw [← hW1]
    clear hW1
    go_wp2_with fail
    refine Calls.mono HFI.out ?_
    rintro e x7 ⟨rfl, b7⟩
    obtain ⟨W2, hW2⟩ : ∃ W2, W2 = x7.alloc (.cells #[.int .i64 s0, .int .i64 s1, .int .i64 s2, .int .i64 s3, .int .i64 s4, .int .i64 s5, .bool s6] 55) := ⟨_, rfl⟩
    have hB2 : Below W1.heap.size W1 W2 := by rw [hW2]; exact b7.alloc b7.size _
    have HJ2 : Hid (Below w.heap.size w W2) := Lib.hid (HB1.out.trans (hB2.mono HB1.out.size))
    have hS : W2.heap[x7.heap.size]? = some (.cells #[.int .i64 s0, .int .i64 s1, .int .i64 s2, .int .i64 s3, .int .i64 s4, .int .i64 s5, .bool s6] 55 (0, 0)) := by rw [hW2]; exact heap_alloc_new x7 _
    have HA2 := Lib.hid (HM.out W2 hB2)
    have hA2 := HA2.out
    have m1 := obj_cell hA2 1
    have m2 := obj_cell hA2 2
    have m3 := obj_cell hA2 3
    have m4 := obj_cell hA2 4
    have m5 := obj_cell hA2 5
    have m6 := obj_cell hA2 6
    have q1 := obj_cell hS 1
    have q2 := obj_cell hS 2
    have q3 := obj_cell hS 3
    simp at m1 m2 m3 m4 m5 m6 q1 q2 q3
    clear hS hB2 b7 a00 a01 a02 a23 hA2
    go_upto_region 2 with fail
    rw [← hW2]
    clear hW2
    go_upto_region 7 with fail
    by_cases d1 : da < bd
    · obtain rfl : res = 8 := HRES.out.trans (if_pos (Or.inl d1))
      go_wp2
      go_ret2
      exact ⟨_, rfl, MovePost.bad (by decide), HJ2.out⟩
    by_cases d2 : da < s2
    · obtain rfl : res = 8 := HRES.out.trans (if_pos (Or.inr (Or.inl d2)))
      go_wp2
      go_ret2
      exact ⟨_, rfl, MovePost.bad (by decide), HJ2.out⟩
    by_cases d3 : 36000 < da
    · obtain rfl : res = 8 := HRES.out.trans (if_pos (Or.inr (Or.inr d3)))
      go_wp2
      go_ret2
      exact ⟨_, rfl, MovePost.bad (by decide), HJ2.out⟩
    rw [if_neg (by omega)] at HRES
    go_upto_region 9 with fail
    by_cases a1 : am < 1
    · obtain rfl : res = 79 := HRES.out.trans (if_pos (Or.inl a1))
      go_wp2
      go_ret2
      exact ⟨_, rfl, MovePost.bad (by decide), HJ2.out⟩
    by_cases a2 : 1000000000000 < am
    · obtain rfl : res = 79 := HRES.out.trans (if_pos (Or.inr (Or.inl a2)))
      go_wp2
      go_ret2
      exact ⟨_, rfl, MovePost.bad (by decide), HJ2.out⟩
    have hrb : 0 ≤ am.tmod s1 ∧ am.tmod s1 ≤ am := ⟨Int.tmod_nonneg s1 (by omega), by
      rw [Int.tmod_eq_emod_of_nonneg (by omega)]
      have h1 := Int.mul_ediv_add_emod am s1
      have h2 : 0 ≤ s1 * (am / s1) := Int.mul_nonneg (by omega) (Int.ediv_nonneg (by omega) (by omega))
      omega⟩
    have hrw : IntKind.i64.wrap (am.tmod s1) = am.tmod s1 := by rw [IntKind.wrap_i64]; omega
    by_cases r1 : am.tmod s1 = 0
    case neg =>
      have hbn : (am.tmod s1 != 0) = true := by simpa using r1
      have hbo : (am % s1 != 0) = true := by rw [← Int.tmod_eq_emod_of_nonneg (by omega)]; exact hbn
      obtain rfl : res = 79 := HRES.out.trans (if_pos (Or.inr (Or.inr r1)))
      go_wp2
      go_ret2
      exact ⟨_, rfl, MovePost.bad (by decide), HJ2.out⟩
    rw [if_neg (fun h => h.elim (fun h => a1 h) (fun h => h.elim (fun h => a2 h) (fun h => h r1)))] at HRES
    go_upto_region 11 with fail
    go_region
    go_upto_region 12 with fail

    obtain ⟨bf, hbf⟩ : ∃ bf, bf = inB fr 1 1000 := ⟨_, rfl⟩
    have HBF := Lib.hid hbf
    have HF := Lib.hid (fun W => ryholder_any fr W)
    rw [← hbf] at HF
    clear hbf
    cases bf with
    | false =>
      have hen : endsB ⟨nu, da, 3, se, fr, 0, am⟩ = false := by
        have h1 := inB_false.1 HBF.out.symm
        rw [endsB_3]
        exact decide_eq_false (fun h => h1 ⟨h.1, h.2.1⟩)
      obtain rfl : res = 6 := HRES.out.trans (if_pos hen)
      clear hen
      go_wp2_with (first | (go_at_call 128; with_reducible refine Calls.mono (HF.out _) ?_; rintro e w9 ⟨rfl, rfl⟩))
      go_ret2
      exact ⟨_, rfl, MovePost.bad (by decide), HJ2.out.drew⟩
    | true =>
    have hfb := inB_true.1 HBF.out.symm
    have hen : endsB ⟨nu, da, 3, se, fr, 0, am⟩ = true := by
      rw [endsB_3]
      exact decide_eq_true ⟨hfb.1, hfb.2, rfl⟩
    rw [if_neg (by rw [hen]; decide)] at HRES
    clear hen
    go_upto_region 14 with (first | (go_at_call 128; with_reducible refine Calls.mono (HF.out _) ?_; rintro e w9 ⟨rfl, rfl⟩))
    have HJ3 : Hid (Below w.heap.size w W2.drew) := Lib.hid HJ2.out.drew
    have HA3 : Hid (W2.drew.heap[w.heap.size + 1]? = some (.cells #[.int .i64 nu, .int .i64 da, .int .i64 3, .int .i64 se, .int .i64 fr, .int .i64 0, .int .i64 am] 104 (0, 0))) := Lib.hid HA2.out
    generalize W2.drew = W3 at HJ3 HA3 ⊢
    clear m1 m2 m3 m4 m5 m6 q1 q2 q3 HJ2 HA2
    have HCE : Hid (∀ W, Below W3.heap.size W3 W → W.cell? ⟨w.heap.size + 1, 0, none⟩ = some (.int .i64 nu) ∧ W.cell? ⟨w.heap.size + 1, 1, none⟩ = some (.int .i64 da) ∧ W.cell? ⟨w.heap.size + 1, 2, none⟩ = some (.int .i64 3) ∧ W.cell? ⟨w.heap.size + 1, 3, none⟩ = some (.int .i64 se) ∧ W.cell? ⟨w.heap.size + 1, 4, none⟩ = some (.int .i64 fr) ∧ W.cell? ⟨w.heap.size + 1, 5, none⟩ = some (.int .i64 0) ∧ W.cell? ⟨w.heap.size + 1, 6, none⟩ = some (.int .i64 am)) := Lib.hid fun W hW => by
      have h1 := obj_below HA3.out hW
      exact ⟨obj_cell h1 0, obj_cell h1 1, obj_cell h1 2, obj_cell h1 3, obj_cell h1 4, obj_cell h1 5, obj_cell h1 6⟩
    obtain ⟨m0, m1, m2, m3, m4, m5, m6⟩ := HCE.out W3 (Below.refl _ _)
    have hcs : (fun W : World => W.cell? ⟨w.heap.size + 1, 0, none⟩ = some (.int .i64 nu) ∧ W.cell? ⟨w.heap.size + 1, 1, none⟩ = some (.int .i64 da) ∧ W.cell? ⟨w.heap.size + 1, 2, none⟩ = some (.int .i64 3) ∧ W.cell? ⟨w.heap.size + 1, 3, none⟩ = some (.int .i64 se) ∧ W.cell? ⟨w.heap.size + 1, 4, none⟩ = some (.int .i64 fr) ∧ W.cell? ⟨w.heap.size + 1, 5, none⟩ = some (.int .i64 0) ∧ W.cell? ⟨w.heap.size + 1, 6, none⟩ = some (.int .i64 am)) W3 := ⟨m0, m1, m2, m3, m4, m5, m6⟩
    simp only at hcs
    obtain ⟨held, hheld⟩ : ∃ held, held = heldM l se fr := ⟨_, rfl⟩
    have HHE : Hid (∀ W, Below w.heap.size w W → Calls Try.prog 67 #[v, .int .i64 se, .int .i64 fr] W fun e w' => e = .returned (.int .i64 held) ∧ Below W.heap.size W w') := Lib.hid fun W hW => by
      rw [hheld, ← firstH_eq HOK.out.ok.asc]
      exact ryheld_any l se fr v W (HL.out.below hW) (by have := HLL.out; omega)
    obtain ⟨ho0, ho1⟩ : 0 ≤ held ∧ held ≤ 1000000000000000000 := by
      have := sumH_bound (p := isAt se fr) HOK.out.ok.ok; have := HLL.out; rw [hheld]; unfold heldM; omega
    have HHELD := Lib.hid hheld
    rw [← hheld] at HRES
    clear hheld
    go_region_held3 (fun W => W.cell? ⟨w.heap.size + 1, 0, none⟩ = some (.int .i64 nu) ∧ W.cell? ⟨w.heap.size + 1, 1, none⟩ = some (.int .i64 da) ∧ W.cell? ⟨w.heap.size + 1, 2, none⟩ = some (.int .i64 3) ∧ W.cell? ⟨w.heap.size + 1, 3, none⟩ = some (.int .i64 se) ∧ W.cell? ⟨w.heap.size + 1, 4, none⟩ = some (.int .i64 fr) ∧ W.cell? ⟨w.heap.size + 1, 5, none⟩ = some (.int .i64 0) ∧ W.cell? ⟨w.heap.size + 1, 6, none⟩ = some (.int .i64 am)) (first | exact hcs | exact HCE.out _ HB9.out) (first | (go_at_call 67; with_reducible refine Calls.mono (HHE.out _ (HJ3.out.drew)) ?_; rintro e x9 ⟨rfl, b9⟩; have HB9 : Hid (Below W3.heap.size W3 x9) := Lib.hid (((Below.refl _ _).drew).trans (b9.mono ((Below.refl W3.heap.size W3).drew).size)); clear b9))
    all_goals (
      have HJ9 : Hid (Below w.heap.size w x9) := Lib.hid (HJ3.out.trans (HB9.out.mono HJ3.out.size))
      clear m0 m1 m2 m3 m4 m5 m6 hcs
      obtain ⟨m0, m1, m2, m3, m4, m5, m6⟩ := HCE.out x9 HB9.out
      by_cases o1 : held < am
      · obtain rfl : res = 77 := HRES.out.trans (if_pos ⟨by decide, o1⟩)
        go_wp2
        go_ret2
        exact ⟨_, rfl, MovePost.bad (by decide), HJ9.out⟩
      · obtain rfl : res = 0 := (HRES.out.trans (if_neg (fun h => o1 h.2))).trans (if_neg (fun h => absurd h.1 (by decide)))
        obtain ⟨s, hm⟩ := HMV.out rfl
        have hid := findS_id hm.sec
        have hid2 := (HU.out s hid.2).2
        simp only at hid
        rw [hid.1] at hid2
        have HK1 : Hid (HsOk (setM se fr (-am) l)) := Lib.hid (setM_ok HOK.out.ok ⟨hid2.1, hid2.2.1⟩ hfb (by have := HHELD.out; omega) (by have := HOK.out.out se; omega))
        have HLN : Hid ((setM se fr (-am) l).length ≤ 900001) := Lib.hid (by have := setM_len se fr (-am) l; have := HLL.out; omega)
        have hneg : IntKind.i64.wrap (-am) = -am := by rw [IntKind.wrap_i64]; omega
        have HS1 : Hid (∀ W, Below w.heap.size w W → Calls Try.prog 130 #[v, .int .i64 se, .int .i64 fr, .int .i64 (-am)] W fun e w' => ∃ v', e = .returned v' ∧ w'.ownsRow W.heap.size 53 3 v' (setM se fr (-am) l).length (cellsL hldC (setM se fr (-am) l)) ∧ Below W.heap.size W w') := Lib.hid fun W hW => by
          exact ryset_asc l se fr (-am) v W (HL.out.below hW) (by have := HLL.out; omega) HOK.out.ok.asc (by have := HHELD.out; omega)
        clear hm hid hid2
        go_upto_region 16 with fail
        go_region
        go_wp2_with fail
        with_reducible refine Calls.mono (HS1.out _ HJ9.out.drew) ?_
        rintro e x10 ⟨u, rfl, hown, b10⟩

        have e1 : lc = setM se fr (-am) l := by rw [HLC.out]; rfl
        rw [← e1] at hown
        have HFIN := Lib.hid (ownsRow_mono hown HJ9.out.size)
        have HJ10 := Lib.hid (HJ9.out.trans ((((Below.refl x9.heap.size x9).drew).trans b10).mono HJ9.out.size))
        clear hown b10 e1
        go_wp2
        go_ret2
        exact ⟨_, rfl, MovePost.good HFIN.out, HJ10.out⟩)

theorem rymove_any (secs : List Sec) (l : List Hld) (bd : Int) (m : Mv) (x y z v : Value) (w : World) (hs : ListAt Sec.cells 7 w x secs) (hsl : secs.length ≤ 1000000) (hu : ∀ s ∈ secs, 1 ≤ s.unit ∧ 1 ≤ s.id ∧ s.id ≤ 1000 ∧ s.mat ≤ 36000)
    (hl : ListAt hldC 3 w v l) (hll : l.length ≤ 900000) (hok : HsI l) (hk : kindOk m) :
    Calls Try.prog 108 #[.agg #[x, y, z], v, .int .i64 bd, .agg (mvC m).toArray] w fun e w' => ∃ u, e = .returned (.tuple #[u, .int .i64 (faultM secs l bd m)]) ∧ MovePost w w' u (faultM secs l bd m) (carryM l m) ∧ Below w.heap.size w w' := by
  obtain ⟨nu, da, ki, se, fr, tt, am⟩ := m
  rcases hk with ⟨h1, h2⟩ | h1 | ⟨h1, h2⟩
  · simp only at h1 h2; subst h1 h2; exact rymove_1 secs l bd nu da se tt am x y z v w hs hsl hu hl hll hok
  · simp only at h1; subst h1; exact rymove_2 secs l bd nu da se fr tt am x y z v w hs hsl hu hl hll hok
  · simp only at h1 h2; subst h1 h2; exact rymove_3 secs l bd nu da se fr am x y z v w hs hsl hu hl hll hok

end Go.Proofs.Ytblidmkkbcobgaa
