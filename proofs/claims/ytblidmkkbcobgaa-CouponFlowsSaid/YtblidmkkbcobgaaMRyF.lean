/- The register's reference: until, for right registers. -/
import Derived.Test.YtblidmkkbcobgaaMRyE
import Derived.Test.YtblidmkkbcobgaaMG5
import Derived.Deep.DeepCutAuto
set_option linter.unusedSimpArgs false
set_option linter.unusedVariables false
set_option linter.unusedSimpArgs false
set_option linter.unusedVariables false
namespace Go.Proofs.Ytblidmkkbcobgaa
open Go.RowKit Go.Lib Go.Proofs

theorem replay_prefix {secs : List Sec} {ns : List Mv} : ∀ {ms : List Mv} {l : List Hld} {b : Mv} {k : List Hld}, replayM secs l b (ms ++ ns) = some k → ∃ h, replayM secs l b ms = some h
  | [], l, b, k, _ => ⟨l, rfl⟩
  | m :: ms, l, b, k, h => by
    simp only [List.cons_append, replayM] at h
    split at h
    · rename_i hc
      obtain ⟨q, hq⟩ := replay_prefix h
      exact ⟨q, by simp only [replayM]; rw [if_pos hc, hq]⟩
    · cases h
/-- What stands at a place of a right run. -/
structure PlaceM (secs : List Sec) (ms : List Mv) (k : Nat) (m : Mv) (h : List Hld) (bd : Int) : Prop where
  run : replayM secs [] Mv.zero (ms.take k) = some h
  day0 : bd = (lastM Mv.zero (ms.take k)).day
  fault : faultM secs h bd m = 0
  num : m.num = (k : Int) + 1
  next : replayM secs [] Mv.zero (ms.take (k + 1)) = some (carryM h m)
  inv : HsI h
  len : h.length ≤ 2 * k
theorem RegOk.place {r : Reg} (h : RegOk r) (k : Nat) (hk : k < r.ms.length) : ∃ q, PlaceM r.secs r.ms k r.ms[k] q (lastM Mv.zero (r.ms.take k)).day := by
  have h1 := h.run
  rw [← List.take_append_drop (k + 1) r.ms] at h1
  obtain ⟨q1, hq1⟩ := replay_prefix h1
  have hq2 := hq1
  rw [List.take_succ_eq_append_getElem hk, replayM_snoc] at hq2
  cases hr : replayM r.secs [] Mv.zero (r.ms.take k) with
  | none => rw [hr] at hq2; cases hq2
  | some q =>
    rw [hr] at hq2
    simp only at hq2
    split at hq2
    · rename_i hc
      injection hq2 with hq2
      have hrun := replay_run h.secs.bound hsI_nil hr
      have hlen : (r.ms.take k).length = k := by rw [List.length_take]; omega
      have hn := hrun.num
      have hl := hrun.len
      rw [hlen] at hn hl
      exact ⟨q, hr, rfl, hc.2, by rw [hc.1, hn]; simp [Mv.zero], by rw [hq1, hq2], hrun.inv, by simpa using hl⟩
    · cases hq2
/-- The moves up to a day. -/
def tillM (day : Int) (ms : List Mv) : List Mv := ms.takeWhile fun m => decide (m.day ≤ day)
theorem tillM_step {day : Int} {ms : List Mv} {k : Nat} (hk : k < ms.length) (h : tillM day ms = ms.take k ++ tillM day (ms.drop k)) (hd : ms[k].day ≤ day) : tillM day ms = ms.take (k + 1) ++ tillM day (ms.drop (k + 1)) := by
  rw [h, List.drop_eq_getElem_cons hk, List.take_succ_eq_append_getElem hk]
  unfold tillM
  rw [List.takeWhile_cons_of_pos (by simpa using hd)]
  simp only [List.append_assoc, List.singleton_append]
theorem tillM_stop {day : Int} {ms : List Mv} {k : Nat} (hk : k < ms.length) (h : tillM day ms = ms.take k ++ tillM day (ms.drop k)) (hd : ¬ ms[k].day ≤ day) : tillM day ms = ms.take k := by
  rw [h, List.drop_eq_getElem_cons hk]
  unfold tillM
  rw [List.takeWhile_cons_of_neg (by simpa using hd), List.append_nil]
theorem kind_of {secs : List Sec} {l : List Hld} {bd : Int} {m : Mv} {s : Sec} (h : MvOk secs l bd m s) : kindOk m := by
  rcases h.kind with k | k | k
  · exact Or.inl ⟨k, h.frm0 k⟩
  · exact Or.inr (Or.inl k)
  · exact Or.inr (Or.inr ⟨k, h.to0 k⟩)
theorem SecsOk.uses {secs : List Sec} (h : SecsOk secs) : ∀ s ∈ secs, 1 ≤ s.unit ∧ 1 ≤ s.id ∧ s.id ≤ 1000 ∧ s.mat ≤ 36000 := fun s hs => ⟨((h.ok s hs).unit).1, (h.bound s hs).1, (h.bound s hs).2.1, (h.bound s hs).2.2⟩

set_option maxRecDepth 100000 in
set_option maxHeartbeats 16000000 in
theorem ryuntil_ok (r : Reg) (x y z : Value) (day : Int) (w : World) (h : RegOk r) (hr : RegAt w x y z r) :
    Calls Try.prog 102 #[.agg #[x, y, z], .int .i64 day] w fun e w' => ∃ u k, e = .returned (.tuple #[u, .bool true]) ∧ replayM r.secs [] Mv.zero (tillM day r.ms) = some k ∧ w'.ownsRow w.heap.size 53 3 u k.length (cellsL hldC k) ∧ Below w.heap.size w w' := by
  have H := Lib.hid h
  have HR := Lib.hid hr
  obtain ⟨ao, cap, hze, hcap, hcs⟩ := hr.ms.shape mvF
  have HCS := Lib.hid hcs
  obtain ⟨n, hn⟩ : ∃ n, n = r.ms.length := ⟨_, rfl⟩
  have HN := Lib.hid hn
  have hnl : n ≤ 400 := by rw [hn]; exact h.len
  rw [← hn] at hcap hze
  subst hze
  have HB0 := Lib.hid (below_alloc w (.cells #[x, y, .slice ao n cap] 29))
  have HA0 := Lib.hid (heap_alloc_new w (.cells #[x, y, .slice ao n cap] 29))
  obtain ⟨W1, hW1⟩ : ∃ W1, W1 = w.alloc (.cells #[x, y, .slice ao n cap] 29) := ⟨_, rfl⟩
  rw [← hW1] at HB0 HA0
  have hA0 := HA0.out
  have a2 := obj_cell hA0 2
  simp at a2
  have HBR := Lib.hid (obj_lt hA0)
  clear hn hcs h hr hA0
  go_enter Try.func102, Try.ntmps102
  go_upto_region 1 with fail
  rw [← hW1]
  clear hW1
  go_wp2
  go_loopw [6, 7, 15] (fun vv lv iv wr => ∃ (k : Nat) (q : List Hld) (bd : Int), iv = .int .i64 (k : Int) ∧ k ≤ n ∧ lv = .int .i64 bd ∧ Hid (bd = (lastM Mv.zero (r.ms.take k)).day) ∧ Hid (replayM r.secs [] Mv.zero (r.ms.take k) = some q) ∧ Hid (tillM day r.ms = r.ms.take k ++ tillM day (r.ms.drop k)) ∧ Hid (wr.ownsRow w.heap.size 53 3 vv q.length (cellsL hldC q)) ∧ Hid (Below w.heap.size w wr) ∧ Hid (Below W1.heap.size W1 wr)) (fun _ _ iv _ => n - (RowKit.intOf iv).toNat)
  case atStart => exact ⟨0, [], 0, rfl, by omega, rfl, Lib.hid rfl, Lib.hid rfl, Lib.hid rfl, Lib.hid (World.ownsRow_nil _ _ _ _), HB0, Lib.hid (Below.refl _ _)⟩
  case round =>
    clear a2
    obtain ⟨k, q, bd, rfl, hkn, rfl, HBD, HQ, HT, HOWN, HB, HB1⟩ := hrel
    by_cases hlk : k < n
    · have hkl : k < r.ms.length := by rw [← HN.out]; exact hlk
      obtain ⟨b, o, rfl, hb, hcc⟩ := HCS.out (by omega)
      have hcell := fun j (hj : j < 7) => (HB.out.cell (p := ⟨b, o + k * 7 + j, none⟩) hb).trans (hcc k hkl j hj)
      obtain ⟨q', hp'⟩ := H.out.place k hkl
      have hqq : q' = q := by have := hp'.run; rw [HQ.out] at this; injection this with this; exact this.symm
      subst hqq
      rw [← HBD.out] at hp'
      have HP := Lib.hid hp'
      have HT1 : Hid (r.ms[k].day ≤ day → tillM day r.ms = r.ms.take (k + 1) ++ tillM day (r.ms.drop (k + 1))) := Lib.hid (tillM_step hkl HT.out)
      have HT2 : Hid (¬ r.ms[k].day ≤ day → tillM day r.ms = r.ms.take k) := Lib.hid (tillM_stop hkl HT.out)
      have HL1 : Hid (lastM Mv.zero (r.ms.take (k + 1)) = r.ms[k]) := Lib.hid (by rw [List.take_succ_eq_append_getElem hkl, lastM_snoc])
      obtain ⟨s, hmv⟩ := fault_zero (fun s hs => (H.out.secs.bound s hs).2.2) hp'.fault
      have hkd := kind_of hmv
      have hnum := hp'.num
      generalize r.ms[k] = m at *
      have HMC := Lib.hid (fun W (hW : Below w.heap.size w W) (v : Value) (hv : ListAt hldC 3 W v q') => rymove_any r.secs q' bd m x y (.slice (some ⟨b, o, none⟩) n cap) v W (HR.out.secs.below hW) (by have := H.out.secs.len; omega) H.out.secs.uses hv (by have := hp'.len; omega) hp'.inv hkd)
      have HRG : Hid (∀ W, Below W1.heap.size W1 W → W.heap[w.heap.size]? = some (.cells #[x, y, .slice (some ⟨b, o, none⟩) n cap] 29 (0, 0))) := Lib.hid fun W hW => obj_below HA0.out hW
      rw [hp'.fault] at HMC
      obtain ⟨nu, da, ki, se, fr, tt, am⟩ := m
      simp only [mvC] at hcell HMC
      simp only at hnum hkd HT1 HT2
      subst hnum
      have c0 := hcell 0 (by omega)
      have c1 := hcell 1 (by omega)
      have c2 := hcell 2 (by omega)
      have c3 := hcell 3 (by omega)
      have c4 := hcell 4 (by omega)
      have c5 := hcell 5 (by omega)
      have c6 := hcell 6 (by omega)
      simp at c0 c1 c2 c3 c4 c5 c6
      have hk0 : (0 : Int) ≤ (k : Int) := by omega
      have hk1 : (k : Int) < (n : Int) := by omega
      have hwk : IntKind.i64.wrap ((k : Int) + 1) = (k : Int) + 1 := IntWalk.i64_in _ (by omega)
      obtain ⟨W2, hW2⟩ : ∃ W2, W2 = wr.alloc (.cells #[.int .i64 ((k : Int) + 1), .int .i64 da, .int .i64 ki, .int .i64 se, .int .i64 fr, .int .i64 tt, .int .i64 am] 104) := ⟨_, rfl⟩
      have HB2 : Hid (Below w.heap.size w W2) := Lib.hid (by rw [hW2]; exact HB.out.alloc HB.out.size _)
      have HB3 : Hid (Below W1.heap.size W1 W2) := Lib.hid (by rw [hW2]; exact HB1.out.alloc HB1.out.size _)
      have HX2 : Hid (W2.heap[wr.heap.size]? = some (.cells #[.int .i64 ((k : Int) + 1), .int .i64 da, .int .i64 ki, .int .i64 se, .int .i64 fr, .int .i64 tt, .int .i64 am] 104 (0, 0))) := Lib.hid (by rw [hW2]; exact heap_alloc_new wr _)
      have HO2 : Hid (W2.ownsRow w.heap.size 53 3 u6 q'.length (cellsL hldC q')) := Lib.hid (by rw [hW2]; exact ownsRow_below HOWN.out (below_alloc wr _))
      clear hcell hcc hp' hmv
      go_upto_region 6 with fail
      rw [← hW2]
      clear hW2 c0 c1 c2 c3 c4 c5 c6
      have hX := HX2.out
      have d0 := obj_cell hX 0
      have d1 := obj_cell hX 1
      have d2 := obj_cell hX 2
      have d3 := obj_cell hX 3
      have d4 := obj_cell hX 4
      have d5 := obj_cell hX 5
      have d6 := obj_cell hX 6
      have hG := HRG.out _ HB3.out
      have g0 := obj_cell hG 0
      have g1 := obj_cell hG 1
      have g2 := obj_cell hG 2
      simp at d0 d1 d2 d3 d4 d5 d6 g0 g1 g2
      clear hX hG
      by_cases hd : da ≤ day
      · have HT3 := Lib.hid (HT1.out hd)
        have hnd : ¬ day < da := by omega
        clear HT1 HT2 HT
        obtain ⟨nn, hnn⟩ : ∃ nn, nn = (carryM q' ⟨(k : Int) + 1, da, ki, se, fr, tt, am⟩).length := ⟨_, rfl⟩
        rcases hkd with ⟨k1, k2⟩ | k1 | ⟨k1, k2⟩
        · subst k1 k2
          go_wp2_with fail
          with_reducible refine Calls.mono (HMC.out _ HB2.out _ (ListAt.owns HO2.out)) ?_
          rintro e w9 ⟨u, rfl, hmp, b9⟩
          have HOW := Lib.hid (ownsRow_mono (hmp.1 rfl) HB2.out.size)
          have HJ := Lib.hid (HB2.out.trans (b9.mono HB2.out.size))
          have HJ1 := Lib.hid (HB3.out.trans (b9.mono HB3.out.size))
          have hX := obj_below HX2.out b9
          have e1 := obj_cell hX 1
          simp at e1
          clear hmp b9 hX d0 d1 d2 d3 d4 d5 d6 g0 g1 g2
          go_upto_region 12 with fail
          go_region
          go_wp2
          go_roundw
          case rel => exact ⟨k + 1, _, da, by first | rfl | go_num, by omega, rfl, Lib.hid (by rw [HL1.out]), Lib.hid HP.out.next, HT3, Lib.hid HOW.out, Lib.hid HJ.out.drew, Lib.hid HJ1.out.drew⟩
          case measure => simp [RowKit.intOf]; omega
        · subst k1
          go_wp2_with fail
          with_reducible refine Calls.mono (HMC.out _ HB2.out _ (ListAt.owns HO2.out)) ?_
          rintro e w9 ⟨u, rfl, hmp, b9⟩
          have HOW := Lib.hid (ownsRow_mono (hmp.1 rfl) HB2.out.size)
          have HJ := Lib.hid (HB2.out.trans (b9.mono HB2.out.size))
          have HJ1 := Lib.hid (HB3.out.trans (b9.mono HB3.out.size))
          have hX := obj_below HX2.out b9
          have e1 := obj_cell hX 1
          simp at e1
          clear hmp b9 hX d0 d1 d2 d3 d4 d5 d6 g0 g1 g2
          go_upto_region 12 with fail
          go_region
          go_wp2
          go_roundw
          case rel => exact ⟨k + 1, _, da, by first | rfl | go_num, by omega, rfl, Lib.hid (by rw [HL1.out]), Lib.hid HP.out.next, HT3, Lib.hid HOW.out, Lib.hid HJ.out.drew, Lib.hid HJ1.out.drew⟩
          case measure => simp [RowKit.intOf]; omega
        · subst k1 k2
          go_wp2_with fail
          with_reducible refine Calls.mono (HMC.out _ HB2.out _ (ListAt.owns HO2.out)) ?_
          rintro e w9 ⟨u, rfl, hmp, b9⟩
          have HOW := Lib.hid (ownsRow_mono (hmp.1 rfl) HB2.out.size)
          have HJ := Lib.hid (HB2.out.trans (b9.mono HB2.out.size))
          have HJ1 := Lib.hid (HB3.out.trans (b9.mono HB3.out.size))
          have hX := obj_below HX2.out b9
          have e1 := obj_cell hX 1
          simp at e1
          clear hmp b9 hX d0 d1 d2 d3 d4 d5 d6 g0 g1 g2
          go_upto_region 12 with fail
          go_region
          go_wp2
          go_roundw
          case rel => exact ⟨k + 1, _, da, by first | rfl | go_num, by omega, rfl, Lib.hid (by rw [HL1.out]), Lib.hid HP.out.next, HT3, Lib.hid HOW.out, Lib.hid HJ.out.drew, Lib.hid HJ1.out.drew⟩
          case measure => simp [RowKit.intOf]; omega
      · have HTE := Lib.hid (HT2.out hd)
        have hnd : day < da := by omega
        go_wp2
        go_ret2
        first | exact ⟨_, rfl, _, by rw [HTE.out]; exact HQ.out, HO2.out, HB2.out⟩ | exact ⟨_, _, rfl, by rw [HTE.out]; exact HQ.out, HO2.out, HB2.out⟩
    · obtain rfl : k = n := by omega
      have hT : tillM day r.ms = r.ms.take k := by
        rw [HT.out, HN.out, List.take_length, List.drop_length]; simp [tillM]
      have HTE := Lib.hid hT
      clear hT
      go_wp2
      go_ret2
      first | exact ⟨_, rfl, _, by rw [HTE.out]; exact HQ.out, HOWN.out, HB.out⟩ | exact ⟨_, _, rfl, by rw [HTE.out]; exact HQ.out, HOWN.out, HB.out⟩

end Go.Proofs.Ytblidmkkbcobgaa
