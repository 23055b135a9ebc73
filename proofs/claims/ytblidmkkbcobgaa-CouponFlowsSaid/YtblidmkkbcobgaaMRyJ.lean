/- The register's reference: Add, of a right security behind the last one. -/
import Derived.Test.YtblidmkkbcobgaaMRyI
import Derived.Test.YtblidmkkbcobgaaMG7
set_option linter.unusedSimpArgs false
set_option linter.unusedVariables false
set_option linter.unusedSimpArgs false
set_option linter.unusedVariables false
namespace Go.Proofs.Ytblidmkkbcobgaa
open Go.RowKit Go.Lib Go.Proofs

theorem Try.infoSc : (Try.prog.info? 55).map (fun i => (i.zero, i.size, i.bytes)) = some (some (.agg #[.int .i64 0, .int .i64 0, .int .i64 0, .int .i64 0, .int .i64 0, .int .i64 0, .bool false]), 7, 56) := by kernel_rfl
theorem findS_none {id : Int} : ∀ {l : List Sec}, (∀ t ∈ l, t.id ≠ id) → findS id l = none
  | [], _ => rfl
  | s :: l, h => by
    unfold findS
    rw [if_neg (h s List.mem_cons_self)]
    exact findS_none fun t ht => h t (List.mem_cons_of_mem _ ht)

set_option maxRecDepth 100000 in
set_option maxHeartbeats 16000000 in
theorem ryAdd_ok (r : Reg) (s : Sec) (x y z : Value) (w : World) (h : RegOk r) (hs : SecR s) (hno : ∀ t ∈ r.secs, t.id < s.id) (hlen : r.secs.length < 20) (hr : RegAt w x y z r) :
    Calls Try.prog 25 #[.agg #[x, y, z], .agg s.cells.toArray] w fun e w' => ∃ x' y' z', e = .returned (.tuple #[.agg #[x', y', z'], .int .i64 0]) ∧ RegAt w' x' y' z' ⟨r.secs ++ [s], r.hs, r.ms⟩ ∧ Below w.heap.size w w' := by
  obtain ⟨i0, hi0, hz0, hz1, hz2⟩ := info_parts Try.infoSc
  have HSZ7 : Hid (∀ W, (sizeOf (Try.prog.elem 25)).run Try.prog W = .ok 7 W) := Lib.hid (fun W => by simp [go_sem])
  obtain ⟨zz, rr, hso⟩ := hs
  have HR := Lib.hid hr
  obtain ⟨aS, cS, hxe, hcapS, hcsS⟩ := hr.secs.shape secF
  obtain ⟨aH, cH, hye, -, -⟩ := hr.hs.shape hldF
  obtain ⟨aM, cM, hze, -, -⟩ := hr.ms.shape mvF
  have HCS := Lib.hid hcsS
  have HNO := Lib.hid hno
  have HSC := Lib.hid (fun W => rySecurity_ok hso W)
  have HCK := Lib.hid (fun W (hW : Below w.heap.size w W) => ryCheck_ok r x y z W h (hr.below hW))
  have HFI := Lib.hid (fun W (hW : Below w.heap.size w W) => ryFind_any r.secs s.id x y z W (hr.secs.below hW) (by omega))
  rw [findS_none (fun t ht => by have := hno t ht; omega)] at HFI
  simp only [Option.getD_none, Option.isSome_none, Sec.zero, Sec.cells] at HFI
  have HHH0 : Hid (∀ W, Below w.heap.size w W → ListAt hldC 3 W y r.hs) := Lib.hid fun W hW => hr.hs.below hW
  have HMM0 : Hid (∀ W, Below w.heap.size w W → ListAt mvC 7 W z r.ms) := Lib.hid fun W hW => hr.ms.below hW
  have HNW0 : Hid (∀ W, Below w.heap.size w W → r.secs.length = 0 ∨ ∃ ad : Addr, aS = some ad ∧ ∀ j u, (cellsL Sec.cells r.secs)[j]? = some u → W.cell? (ad.add j) = some u) := Lib.hid fun W hW => newsOf secF (hxe ▸ hr.secs.below hW)
  have HCLN : Hid ((cellsL Sec.cells r.secs).length = r.secs.length * 7) := Lib.hid (cellsL_len secF r.secs)
  have HONE : Hid (∀ u ∈ cellsL Sec.cells r.secs, u.oneCell' = true) := Lib.hid (cellsL_one secF r.secs)
  obtain ⟨s0, s1, s2, s3, s4, s5, s6⟩ := s
  simp only [Sec.cells] at HSC ⊢
  simp only at HNO HFI
  obtain ⟨n, hn⟩ : ∃ n, n = r.secs.length := ⟨_, rfl⟩
  have HN := Lib.hid hn
  rw [← hn] at hcapS hlen hxe HNW0 HCLN
  obtain ⟨CL, hCL⟩ : ∃ CL, CL = cellsL Sec.cells r.secs := ⟨_, rfl⟩
  have HCLE := Lib.hid hCL
  rw [← hCL] at HNW0 HCLN HONE
  have HNC := Lib.hid hcapS
  obtain ⟨nH, hnH⟩ : ∃ n, n = r.hs.length := ⟨_, rfl⟩
  rw [← hnH] at hye
  obtain ⟨nM, hnM⟩ : ∃ n, n = r.ms.length := ⟨_, rfl⟩
  rw [← hnM] at hze
  clear h hr hso hno hcsS hn hCL hnH hnM
  subst hxe hye hze
  obtain ⟨W1, hW1⟩ : ∃ W1, W1 = ((w.alloc (.cells #[.slice aS n cS, .slice aH nH cH, .slice aM nM cM] 29)).alloc (.cells #[.int .i64 s0, .int .i64 s1, .int .i64 s2, .int .i64 s3, .int .i64 s4, .int .i64 s5, .bool s6] 55)).alloc (.cells #[.slice none 0 0, .slice none 0 0, .slice none 0 0] 29) := ⟨_, rfl⟩
  have HB1 : Hid (Below w.heap.size w W1) := Lib.hid (by rw [hW1]; exact below3 w _ _ _)
  have HA1 : Hid (W1.heap[w.heap.size]? = some (.cells #[.slice aS n cS, .slice aH nH cH, .slice aM nM cM] 29 (0, 0))) := Lib.hid (by rw [hW1]; exact alloc3_at0 w _ _ _)
  have HM1 : Hid (W1.heap[w.heap.size + 1]? = some (.cells #[.int .i64 s0, .int .i64 s1, .int .i64 s2, .int .i64 s3, .int .i64 s4, .int .i64 s5, .bool s6] 55 (0, 0))) := Lib.hid (by rw [hW1]; exact alloc3_at1 w _ _ _)
  have HO1 : Hid (W1.heap[w.heap.size + 2]? = some (.cells #[.slice none 0 0, .slice none 0 0, .slice none 0 0] 29 (0, 0))) := Lib.hid (by rw [hW1]; exact alloc3_at w _ _ _)
  have hA1 := HA1.out
  have a0 := obj_cell hA1 0
  have a1 := obj_cell hA1 1
  have a2 := obj_cell hA1 2
  simp at a0 a1 a2
  clear hA1
  go_enter Try.func25, Try.ntmps25
  go_upto_region 1 with fail
  rw [← hW1]
  clear hW1
  go_wp2_with fail
  with_reducible refine Calls.mono (HCK.out _ HB1.out) ?_
  rintro e w2 ⟨rfl, hb2⟩
  have HB2 := Lib.hid (HB1.out.trans (hb2.mono HB1.out.size))
  have HA2 := Lib.hid (obj_below HA1.out hb2)
  have HM2 := Lib.hid (obj_below HM1.out hb2)
  have HO2 := Lib.hid (obj_below HO1.out hb2)
  clear hb2 a0 a1 a2 HB1 HA1 HM1 HO1 HCK
  have hA2 := HA2.out
  have hM2 := HM2.out
  have a0 := obj_cell hA2 0
  have a1 := obj_cell hA2 1
  have a2 := obj_cell hA2 2
  simp at a0 a1 a2
  have m0 := obj_cell hM2 0
  have m1 := obj_cell hM2 1
  have m2 := obj_cell hM2 2
  have m3 := obj_cell hM2 3
  have m4 := obj_cell hM2 4
  have m5 := obj_cell hM2 5
  have m6 := obj_cell hM2 6
  simp at m0 m1 m2 m3 m4 m5 m6
  clear hA2 hM2
  go_wp2_with fail
  with_reducible refine Calls.mono (HFI.out _ HB2.out) ?_
  rintro e w3 ⟨rfl, hb3⟩
  have hb3a := hb3.alloc hb3.size (.cells #[.int .i64 0, .int .i64 0, .int .i64 0, .int .i64 0, .int .i64 0, .int .i64 0, .bool false] 55)
  obtain ⟨w4, hw4⟩ : ∃ w4, w4 = w3.alloc (.cells #[.int .i64 0, .int .i64 0, .int .i64 0, .int .i64 0, .int .i64 0, .int .i64 0, .bool false] 55) := ⟨_, rfl⟩
  rw [← hw4] at hb3a
  have HB4 := Lib.hid (HB2.out.trans (hb3a.mono HB2.out.size))
  have HA4 := Lib.hid (obj_below HA2.out hb3a)
  have HM4 := Lib.hid (obj_below HM2.out hb3a)
  have HO4 := Lib.hid (obj_below HO2.out hb3a)
  clear hb3 hb3a a0 a1 a2 m0 m1 m2 m3 m4 m5 m6 HB2 HA2 HM2 HO2 HFI
  have hA4 := HA4.out
  have hM4 := HM4.out
  have a0 := obj_cell hA4 0
  have a1 := obj_cell hA4 1
  have a2 := obj_cell hA4 2
  simp at a0 a1 a2
  have m0 := obj_cell hM4 0
  have m1 := obj_cell hM4 1
  have m2 := obj_cell hM4 2
  have m3 := obj_cell hM4 3
  have m4 := obj_cell hM4 4
  have m5 := obj_cell hM4 5
  have m6 := obj_cell hM4 6
  simp at m0 m1 m2 m3 m4 m5 m6
  clear hA4 hM4
  go_upto_region 5 with fail
  rw [← hw4]
  clear hw4
  go_wp2_with fail
  with_reducible refine Calls.mono (HSC.out _) ?_
  rintro e w5 ⟨rfl, hb5⟩
  have HB5 := Lib.hid (HB4.out.trans (hb5.mono HB4.out.size))
  have HA5 := Lib.hid (obj_below HA4.out hb5)
  have HM5 := Lib.hid (obj_below HM4.out hb5)
  have HO5 := Lib.hid (obj_below HO4.out hb5)
  clear hb5 a0 a1 a2 m0 m1 m2 m3 m4 m5 m6 HB4 HA4 HM4 HO4 HSC
  have hn20b : ((n : Int) == 20) = false := beq_eq_false_iff_ne.2 (by omega)
  have hA5 := HA5.out
  have a0 := obj_cell hA5 0
  have a1 := obj_cell hA5 1
  have a2 := obj_cell hA5 2
  simp at a0 a1 a2
  clear hA5
  go_wp2
  clear a0 a1 a2
  go_loopw [9] (fun kv wr => ∃ k : Nat, kv = .int .i64 (k : Int) ∧ k ≤ n ∧ Hid (Below w5.heap.size w5 wr)) (fun kv _ => n - (RowKit.intOf kv).toNat)
  case atStart => exact ⟨0, rfl, by omega, Lib.hid (Below.refl _ _)⟩
  case round =>
    obtain ⟨k, rfl, hkn, HBR⟩ := hrel
    have HBW := Lib.hid (HB5.out.trans (HBR.out.mono HB5.out.size))
    have hAr := obj_below HA5.out HBR.out
    have hMr := obj_below HM5.out HBR.out
    have a0 := obj_cell hAr 0
    have a1 := obj_cell hAr 1
    have a2 := obj_cell hAr 2
    simp at a0 a1 a2
    have m0 := obj_cell hMr 0
    have m1 := obj_cell hMr 1
    have m2 := obj_cell hMr 2
    have m3 := obj_cell hMr 3
    have m4 := obj_cell hMr 4
    have m5 := obj_cell hMr 5
    have m6 := obj_cell hMr 6
    simp at m0 m1 m2 m3 m4 m5 m6
    clear hAr hMr
    by_cases hlt : k < n
    · have hkl : k < r.secs.length := by rw [← HN.out]; exact hlt
      obtain ⟨b, o, hbo, hb, hcc⟩ := HCS.out (by omega)
      subst hbo
      have c0 : wr.cell? ⟨b, o + k * 7, none⟩ = some (.int .i64 (r.secs[k]).id) := (HBW.out.cell (p := ⟨b, o + k * 7, none⟩) hb).trans ((hcc k hkl 0 (by omega)).trans rfl)
      have hid := HNO.out _ (List.getElem_mem hkl)
      generalize (r.secs[k]).id = i at c0 hid
      have hk0 : (0 : Int) ≤ (k : Int) := by omega
      have hk1 : (k : Int) < (n : Int) := by omega
      have hwk : IntKind.i64.wrap ((k : Int) + 1) = (k : Int) + 1 := IntWalk.i64_in _ (by omega)
      clear hcc
      go_upto_region 10 with fail
      go_quiet (fail)
      go_wp2
      go_roundw
      case rel => exact ⟨k + 1, by first | rfl | go_num, by omega, Lib.hid (below_drewN HBR.out _)⟩
      case measure => simp [RowKit.intOf]; omega
    · obtain rfl : n = k := by omega
      have hk1 : ¬ (n : Int) < (n : Int) := by omega
      go_upto_region 10 with fail
      go_quiet (fail)
      go_upto_region 12 with fail
      have HB6 := Lib.hid (below_drewN HBR.out nq)
      generalize wr.drewN nq = w6 at HB6 ⊢
      have HB7 := Lib.hid (HB5.out.trans (HB6.out.mono HB5.out.size))
      have HA6 := Lib.hid (obj_below HA5.out HB6.out)
      have HM6 := Lib.hid (obj_below HM5.out HB6.out)
      have HO6 := Lib.hid (obj_below HO5.out HB6.out)
      clear a0 a1 a2 m0 m1 m2 m3 m4 m5 m6 HBR HBW HB6 HB5 HA5 HM5 HO5
      have HLT : Hid (w.heap.size + 2 < w6.heap.size) := Lib.hid (obj_lt HO6.out)
      have hrb := HLT.out
      obtain ⟨J, hJ⟩ : ∃ J, J = fun W : World => Below w6.heap.size w6 W := ⟨_, rfl⟩
      have HJO : Hid (∀ W, J W → Below w6.heap.size w6 W) := Lib.hid fun W hW => by rw [hJ] at hW; exact hW
      have HJI : Hid (∀ W, Below w6.heap.size w6 W → J W) := Lib.hid fun W hW => by rw [hJ]; exact hW
      have HJD : Hid (∀ W, J W → J W.drew) := Lib.hid fun W hW => HJI.out _ ((HJO.out W hW).drew)
      have HJA : Hid (∀ W o, J W → J (W.alloc o)) := Lib.hid fun W o hW => HJI.out _ ((HJO.out W hW).alloc (HJO.out W hW).size o)
      have HJ0 : Hid (J w6) := Lib.hid (HJI.out _ (Below.refl _ _))
      have HMP : Hid (∀ W, J W → ∀ j, W.cell? ⟨w.heap.size + 1, j, none⟩ = #[.int .i64 s0, .int .i64 s1, .int .i64 s2, .int .i64 s3, .int .i64 s4, .int .i64 s5, .bool s6][j]?) := Lib.hid fun W hW j => obj_cell (obj_below HM6.out (HJO.out W hW)) j
      have HMR : Hid (∀ W, J W → W.heap[w.heap.size]? = some (.cells #[.slice aS n cS, .slice aH nH cH, .slice aM nM cM] 29 (0, 0))) := Lib.hid fun W hW => obj_below HA6.out (HJO.out W hW)
      have HML : Hid (∀ W, J W → ∀ j, W.cell? ⟨w.heap.size, j, none⟩ = #[.slice aS n cS, .slice aH nH cH, .slice aM nM cM][j]?) := Lib.hid fun W hW j => obj_cell (HMR.out W hW) j
      have HNW : Hid (∀ W, J W → n = 0 ∨ ∃ ad : Addr, aS = some ad ∧ ∀ j u, CL[j]? = some u → W.cell? (ad.add j) = some u) := Lib.hid fun W hW => HNW0.out W (HB7.out.trans ((HJO.out W hW).mono HB7.out.size))
      have HHHK : Hid (∀ W, Below w6.heap.size w6 W → ListAt hldC 3 W (.slice aH nH cH) r.hs) := Lib.hid fun W hW => HHH0.out W (HB7.out.trans (hW.mono HB7.out.size))
      have HMMK : Hid (∀ W, Below w6.heap.size w6 W → ListAt mvC 7 W (.slice aM nM cM) r.ms) := Lib.hid fun W hW => HMM0.out W (HB7.out.trans (hW.mono HB7.out.size))
      have HOO : Hid (∀ W, Below w6.heap.size w6 W → W.heap[w.heap.size + 2]? = some (.cells #[.slice none 0 0, .slice none 0 0, .slice none 0 0] 29 (0, 0))) := Lib.hid fun W hW => obj_below HO6.out hW
      clear hJ HNW0 HHH0 HMM0 HCS HNO
      obtain ⟨P, hP⟩ : ∃ P : Bool → Nat → Value → World → Prop, P = fun c j v W => match j with | 0 => (v = .pointer (some ⟨w.heap.size, 0, none⟩)) | 1 => (v = .slice aS n cS) | 2 => (v = .int .i64 (n : Int)) | 3 => (v = .slice aS n cS) | 4 => (c = false → (∃ cv, v = cv ∧ W.ownsRow w6.heap.size 55 7 cv (n) (CL))) | 5 => (v = .agg #[.int .i64 s0, .int .i64 s1, .int .i64 s2, .int .i64 s3, .int .i64 s4, .int .i64 s5, .bool s6]) | 6 => (c = false → (∃ bq, v = .slice (some ⟨bq, 0, none⟩) 1 1 ∧ W.heap[bq]? = some (.cells #[.int .i64 s0, .int .i64 s1, .int .i64 s2, .int .i64 s3, .int .i64 s4, .int .i64 s5, .bool s6] 55 (0, 0)))) | 7 => (∃ dv, v = dv ∧ W.ownsRow w6.heap.size 55 7 dv (n + 1) (CL ++ [.int .i64 s0, .int .i64 s1, .int .i64 s2, .int .i64 s3, .int .i64 s4, .int .i64 s5, .bool s6])) | 8 => (v = .pointer (some ⟨w.heap.size, 0, none⟩)) | 9 => (v = .slice aS n cS) | 10 => (v = .int .i64 (n : Int)) | 11 => (∃ aE cE, v = .slice aE 0 cE) | _ => True := ⟨_, rfl⟩
      have HPI0 : Hid (∀ c v W, P c 0 v W ↔ (v = .pointer (some ⟨w.heap.size, 0, none⟩))) := Lib.hid fun c v W => by rw [hP] <;> exact Iff.rfl
      have HPI1 : Hid (∀ c v W, P c 1 v W ↔ (v = .slice aS n cS)) := Lib.hid fun c v W => by rw [hP] <;> exact Iff.rfl
      have HPI2 : Hid (∀ c v W, P c 2 v W ↔ (v = .int .i64 (n : Int))) := Lib.hid fun c v W => by rw [hP] <;> exact Iff.rfl
      have HPI3 : Hid (∀ c v W, P c 3 v W ↔ (v = .slice aS n cS)) := Lib.hid fun c v W => by rw [hP] <;> exact Iff.rfl
      have HPI4 : Hid (∀ c v W, P c 4 v W ↔ (c = false → (∃ cv, v = cv ∧ W.ownsRow w6.heap.size 55 7 cv (n) (CL)))) := Lib.hid fun c v W => by rw [hP] <;> exact Iff.rfl
      have HPI5 : Hid (∀ c v W, P c 5 v W ↔ (v = .agg #[.int .i64 s0, .int .i64 s1, .int .i64 s2, .int .i64 s3, .int .i64 s4, .int .i64 s5, .bool s6])) := Lib.hid fun c v W => by rw [hP] <;> exact Iff.rfl
      have HPI6 : Hid (∀ c v W, P c 6 v W ↔ (c = false → (∃ bq, v = .slice (some ⟨bq, 0, none⟩) 1 1 ∧ W.heap[bq]? = some (.cells #[.int .i64 s0, .int .i64 s1, .int .i64 s2, .int .i64 s3, .int .i64 s4, .int .i64 s5, .bool s6] 55 (0, 0))))) := Lib.hid fun c v W => by rw [hP] <;> exact Iff.rfl
      have HPI7 : Hid (∀ c v W, P c 7 v W ↔ (∃ dv, v = dv ∧ W.ownsRow w6.heap.size 55 7 dv (n + 1) (CL ++ [.int .i64 s0, .int .i64 s1, .int .i64 s2, .int .i64 s3, .int .i64 s4, .int .i64 s5, .bool s6]))) := Lib.hid fun c v W => by rw [hP] <;> exact Iff.rfl
      have HPI8 : Hid (∀ c v W, P c 8 v W ↔ (v = .pointer (some ⟨w.heap.size, 0, none⟩))) := Lib.hid fun c v W => by rw [hP] <;> exact Iff.rfl
      have HPI9 : Hid (∀ c v W, P c 9 v W ↔ (v = .slice aS n cS)) := Lib.hid fun c v W => by rw [hP] <;> exact Iff.rfl
      have HPI10 : Hid (∀ c v W, P c 10 v W ↔ (v = .int .i64 (n : Int))) := Lib.hid fun c v W => by rw [hP] <;> exact Iff.rfl
      have HPI11 : Hid (∀ c v W, P c 11 v W ↔ (∃ aE cE, v = .slice aE 0 cE)) := Lib.hid fun c v W => by rw [hP] <;> exact Iff.rfl
      have HKP : Hid (∀ (c : Bool) (j : Nat) v W W', Below W.heap.size W W' → P c j v W → P c j v W') := Lib.hid (by
        rw [hP]
        intro c j v W W' hb h
        match j, h with
        | 0, h => exact h
        | 1, h => exact h
        | 2, h => exact h
        | 3, h => exact h
        | 4, h => exact fun hc => by obtain ⟨cv, e, s0⟩ := h hc; exact ⟨cv, e, ownsRow_below s0 hb⟩
        | 5, h => exact h
        | 6, h => exact fun hc => by obtain ⟨bq, e, s0⟩ := h hc; exact ⟨bq, e, obj_below s0 hb⟩
        | 7, ⟨dv, e, s0⟩ => exact ⟨dv, e, ownsRow_below s0 hb⟩
        | 8, h => exact h
        | 9, h => exact h
        | 10, h => exact h
        | 11, ⟨aE, cE, e⟩ => exact ⟨aE, cE, e⟩
        | j + 12, _ => trivial)
      have HKE : Hid (∀ (j : Nat) v W W', j ≠ 7 → True → P false j v W → P true j v W') := Lib.hid (by
        rw [hP]
        intro j v W W' hj hev h
        match j, hj, h with
        | 0, _, h => exact h
        | 1, _, h => exact h
        | 2, _, h => exact h
        | 3, _, h => exact h
        | 4, _, h => exact fun hc => by cases hc
        | 5, _, h => exact h
        | 6, _, h => exact fun hc => by cases hc
        | 7, hj, h => exact absurd rfl hj
        | 8, _, h => exact h
        | 9, _, h => exact h
        | 10, _, h => exact h
        | 11, _, ⟨aE, cE, e⟩ => exact ⟨aE, cE, e⟩
        | j + 12, _, _ => trivial)
      clear hP
      refine wp_region_tail3 [53, 54, 55, 56, 57, 58, 59, 60, 61, 62, 63, 64, 65, 66] (slotS [53, 54, 55, 56, 57, 58, 59, 60, 61, 62, 63, 64]) (readsS [53, 54, 55, 56, 57, 58, 59, 60, 61, 62, 63, 64]) (fun _ c => RP [53, 54, 55, 56, 57, 58, 59, 60, 61, 62, 63, 64] (P c)) (fun _ _ => J) 7 7 (fun k f W => match k with | 0 => (∃ (dv : Value) (aE : Option Addr) (cE : Nat), f 60 = dv ∧ f 64 = .slice aE 0 cE ∧ J W ∧ W.ownsRow w6.heap.size 55 7 dv (n + 1) (CL ++ [.int .i64 s0, .int .i64 s1, .int .i64 s2, .int .i64 s3, .int .i64 s4, .int .i64 s5, .bool s6])) | 1 => (∃ uq : Value, f 65 = uq ∧ J W ∧ W.ownsRow w6.heap.size 55 7 uq (n + 1) (CL ++ [.int .i64 s0, .int .i64 s1, .int .i64 s2, .int .i64 s3, .int .i64 s4, .int .i64 s5, .bool s6])) | 2 => (∃ uq : Value, f 65 = uq ∧ f 66 = .pointer (some ⟨w.heap.size, 0, none⟩) ∧ J W ∧ W.ownsRow w6.heap.size 55 7 uq (n + 1) (CL ++ [.int .i64 s0, .int .i64 s1, .int .i64 s2, .int .i64 s3, .int .i64 s4, .int .i64 s5, .bool s6])) | _ => (∃ (ut : Option Addr) (ct : Nat) (W0 : World), J W0 ∧ W = W0.setCell ⟨w.heap.size, 0, none⟩ (.slice ut (n + 1) ct) ∧ W0.ownsRow w6.heap.size 55 7 (.slice ut (n + 1) ct) (n + 1) (CL ++ [.int .i64 s0, .int .i64 s1, .int .i64 s2, .int .i64 s3, .int .i64 s4, .int .i64 s5, .bool s6]))) 12 8 (by decide) (by decide) (by decide) (by kernel_rfl) (by kernel_rfl) (by kernel_rfl) (by kernel_rfl) (HJD.out _ HJ0.out) (fun b c j f q v W hq h => RP.upd hq h) ?_ ?_ ?_ ?_
      case refine_1 =>
        intro iq hiq f W b c hIW _ hev hdep0
        have hdep : ∀ j, depB _ iq j = true → P c j (f (slotS [53, 54, 55, 56, 57, 58, 59, 60, 61, 62, 63, 64] j)) W := hdep0
        clear hdep0
        generalize ha1 : putsL _ [53, 54, 55, 56, 57, 58, 59, 60, 61, 62, 63, 64, 65, 66] f = a1
        match iq, hiq, hdep, hev with
        | 0, _, hdep0, hev =>
          have hce : (c || decide (0 = 7)) = c := by cases c <;> rfl
          simp only [hce]
          have E2 : a1.tmps[2]?.getD undef = .pointer (some ⟨w.heap.size, 0, none⟩) := by rw [← ha1]; exact (putsL_out2 _ _ _ _ (by decide)).trans rfl
          exact wpOp_val rfl rfl (v := .pointer (some ⟨w.heap.size, 0, none⟩)) (w' := W) (by simp [execOp, go_sem, E2]) ⟨hIW, fun _ _ h => h, _, by decide, rfl, RP.set ((HPI0.out _ _ _).2 rfl)⟩
        | 1, _, hdep0, hev =>
          have hce : (c || decide (1 = 7)) = c := by cases c <;> rfl
          simp only [hce]
          have hd0 := (HPI0.out _ _ _).1 (hdep0 0 (by kernel_rfl))
          have E53 : a1.tmps[53]?.getD undef = .pointer (some ⟨w.heap.size, 0, none⟩) := by rw [← ha1]; exact (putsL_in2 _ _ _ _ (by decide) (show 53 < 68 from by decide)).trans hd0
          have v0 : W.cell? ⟨w.heap.size, 0, none⟩ = some (.slice aS n cS) := by simpa using HML.out W hIW 0
          exact wpOp_val rfl rfl (v := .slice aS n cS) (w' := W) (by simp [execOp, go_sem, E53, v0]) ⟨hIW, fun _ _ h => h, _, by decide, rfl, RP.set ((HPI1.out _ _ _).2 rfl)⟩
        | 2, _, hdep0, hev =>
          have hce : (c || decide (2 = 7)) = c := by cases c <;> rfl
          simp only [hce]
          have E9 : a1.tmps[9]?.getD undef = .int .i64 (n : Int) := by rw [← ha1]; exact (putsL_out2 _ _ _ _ (by decide)).trans rfl
          exact wpOp_val rfl rfl (v := .int .i64 (n : Int)) (w' := W) (by simp [execOp, go_sem, E9]) ⟨hIW, fun _ _ h => h, _, by decide, rfl, RP.set ((HPI2.out _ _ _).2 rfl)⟩
        | 3, _, hdep0, hev =>
          have hce : (c || decide (3 = 7)) = c := by cases c <;> rfl
          simp only [hce]
          have hd1 := (HPI1.out _ _ _).1 (hdep0 1 (by kernel_rfl))
          have hd2 := (HPI2.out _ _ _).1 (hdep0 2 (by kernel_rfl))
          have E54 : a1.tmps[54]?.getD undef = .slice aS n cS := by rw [← ha1]; exact (putsL_in2 _ _ _ _ (by decide) (show 54 < 68 from by decide)).trans hd1
          have E55 : a1.tmps[55]?.getD undef = .int .i64 (n : Int) := by rw [← ha1]; exact (putsL_in2 _ _ _ _ (by decide) (show 55 < 68 from by decide)).trans hd2
          refine wpOp_upto rfl rfl (.tmp 54) (.tmp 55) 25 rfl Try.underlying25 7 HSZ7.out aS n cS n ?_ ?_ HNC.out ⟨hIW, fun _ _ h => h, _, by decide, rfl, RP.set ((HPI3.out _ _ _).2 rfl)⟩
          · show a1.tmps.getD 54 undef = _
            rw [Array.getD_eq_getD_getElem?]
            exact E54
          · show a1.tmps.getD 55 undef = _
            rw [Array.getD_eq_getD_getElem?]
            exact E55
        | 4, _, hdep0, hev =>
          have hce : (c || decide (4 = 7)) = c := by cases c <;> rfl
          simp only [hce]
          have hd3 := (HPI3.out _ _ _).1 (hdep0 3 (by kernel_rfl))
          have E56 : a1.tmps[56]?.getD undef = .slice aS n cS := by rw [← ha1]; exact (putsL_in2 _ _ _ _ (by decide) (show 56 < 68 from by decide)).trans hd3
          refine wpOp_fresh rfl rfl (.const (.slice none 0 0)) (.tmp 56) 25 rfl w6.heap.size 55 i0 (.agg #[.int .i64 0, .int .i64 0, .int .i64 0, .int .i64 0, .int .i64 0, .int .i64 0, .bool false]) 7 56 Try.underlying25 hi0 hz0 hz1 hz2 rfl (by decide) rfl aS (n) cS CL ?_ HCLN.out (HNW.out W hIW) HONE.out (by unfold maxLen; omega) (by omega) (HJO.out W hIW).size ?_
          · show a1.tmps.getD 56 undef = _
            rw [Array.getD_eq_getD_getElem?]
            exact E56
          · intro v' w' h2 h3
            have hb' : Below W.heap.size W w' := (Below.refl _ W).grown h3 (Nat.le_refl _) (fun j e => by cases e)
            have hJ' : J w' := HJI.out _ ((HJO.out W hIW).trans (hb'.mono (HJO.out W hIW).size))
            exact ⟨hJ', fun j _ h => HKP.out c j _ _ _ hb' h, _, by decide, rfl, RP.set ((HPI4.out _ _ _).2 (fun _ => ⟨_, rfl, h2⟩))⟩
        | 5, _, hdep0, hev =>
          have hce : (c || decide (5 = 7)) = c := by cases c <;> rfl
          simp only [hce]
          have E3 : a1.tmps[3]?.getD undef = .pointer (some ⟨w.heap.size + 1, 0, none⟩) := by rw [← ha1]; exact (putsL_out2 _ _ _ _ (by decide)).trans rfl
          have v0 : W.cell? ⟨w.heap.size + 1, 0, none⟩ = some (.int .i64 s0) := by simpa using HMP.out W hIW 0
          have v1 : W.cell? ⟨w.heap.size + 1, 1, none⟩ = some (.int .i64 s1) := by simpa using HMP.out W hIW 1
          have v2 : W.cell? ⟨w.heap.size + 1, 2, none⟩ = some (.int .i64 s2) := by simpa using HMP.out W hIW 2
          have v3 : W.cell? ⟨w.heap.size + 1, 3, none⟩ = some (.int .i64 s3) := by simpa using HMP.out W hIW 3
          have v4 : W.cell? ⟨w.heap.size + 1, 4, none⟩ = some (.int .i64 s4) := by simpa using HMP.out W hIW 4
          have v5 : W.cell? ⟨w.heap.size + 1, 5, none⟩ = some (.int .i64 s5) := by simpa using HMP.out W hIW 5
          have v6 : W.cell? ⟨w.heap.size + 1, 6, none⟩ = some (.bool s6) := by simpa using HMP.out W hIW 6
          exact wpOp_val rfl rfl (v := .agg #[.int .i64 s0, .int .i64 s1, .int .i64 s2, .int .i64 s3, .int .i64 s4, .int .i64 s5, .bool s6]) (w' := W) (by simp [execOp, go_sem, E3, v0, v1, v2, v3, v4, v5, v6]) ⟨hIW, fun _ _ h => h, _, by decide, rfl, RP.set ((HPI5.out _ _ _).2 rfl)⟩
        | 6, _, hdep0, hev =>
          have hce : (c || decide (6 = 7)) = c := by cases c <;> rfl
          simp only [hce]
          have hd5 := (HPI5.out _ _ _).1 (hdep0 5 (by kernel_rfl))
          have E58 : a1.tmps[58]?.getD undef = .agg #[.int .i64 s0, .int .i64 s1, .int .i64 s2, .int .i64 s3, .int .i64 s4, .int .i64 s5, .bool s6] := by rw [← ha1]; exact (putsL_in2 _ _ _ _ (by decide) (show 58 < 68 from by decide)).trans hd5
          exact wpOp_val rfl rfl (v := .slice (some ⟨W.heap.size, 0, none⟩) 1 1) (w' := W.alloc (.cells #[.int .i64 s0, .int .i64 s1, .int .i64 s2, .int .i64 s3, .int .i64 s4, .int .i64 s5, .bool s6] 55)) (by simp [execOp, go_sem, E58]) ⟨(HJA.out _ _ hIW), fun j _ h => HKP.out c j _ _ _ (below_alloc _ _) h, _, by decide, rfl, RP.set ((HPI6.out _ _ _).2 (fun _ => ⟨_, rfl, heap_alloc_new _ _⟩))⟩
        | 7, _, hdep0, hev =>
          have hcf : c = false := hev rfl
          subst hcf
          have hcf : false = false := rfl
          have hd4 := (HPI4.out _ _ _).1 (hdep0 4 (by kernel_rfl))
          have hd6 := (HPI6.out _ _ _).1 (hdep0 6 (by kernel_rfl))
          obtain ⟨cv, q4, r4_0⟩ := (hd4 hcf)
          have E57 : a1.tmps[57]?.getD undef = cv := by rw [← ha1]; exact (putsL_in2 _ _ _ _ (by decide) (show 57 < 68 from by decide)).trans q4
          obtain ⟨bq, q6, r6_0⟩ := (hd6 hcf)
          have E59 : a1.tmps[59]?.getD undef = .slice (some ⟨bq, 0, none⟩) 1 1 := by rw [← ha1]; exact (putsL_in2 _ _ _ _ (by decide) (show 59 < 68 from by decide)).trans q6
          refine wpOp_append rfl rfl (.tmp 57) (.tmp 59) 25 rfl w6.heap.size 55 i0 (.agg #[.int .i64 0, .int .i64 0, .int .i64 0, .int .i64 0, .int .i64 0, .int .i64 0, .bool false]) 7 56 Try.underlying25 hi0 hz0 hz1 hz2 rfl (by decide) cv (n) CL ?_ r4_0 ⟨bq, 0, none⟩ 1 1 [.int .i64 s0, .int .i64 s1, .int .i64 s2, .int .i64 s3, .int .i64 s4, .int .i64 s5, .bool s6] ?_ rfl (obj_new_cells r6_0) (by intro u hu; simp at hu; rcases hu with rfl | rfl | rfl | rfl | rfl | rfl | rfl <;> rfl) (by unfold maxLen; omega) (by omega) (HJO.out W hIW).size ?_
          · show a1.tmps.getD 57 undef = _
            rw [Array.getD_eq_getD_getElem?]
            exact E57
          · show a1.tmps.getD 59 undef = _
            rw [Array.getD_eq_getD_getElem?]
            exact E59
          · intro v' w' h2 h3
            have hJ' : J w' := HJI.out _ ((HJO.out W hIW).grown h3 (HJO.out W hIW).size fun j e => ownBlock_le r4_0 j e)
            exact ⟨hJ', fun j hj h => HKE.out j _ _ _ hj trivial h, _, by decide, rfl, RP.set ((HPI7.out _ _ _).2 ⟨_, rfl, h2⟩)⟩
        | 8, _, hdep0, hev =>
          have hce : (c || decide (8 = 7)) = c := by cases c <;> rfl
          simp only [hce]
          have E2 : a1.tmps[2]?.getD undef = .pointer (some ⟨w.heap.size, 0, none⟩) := by rw [← ha1]; exact (putsL_out2 _ _ _ _ (by decide)).trans rfl
          exact wpOp_val rfl rfl (v := .pointer (some ⟨w.heap.size, 0, none⟩)) (w' := W) (by simp [execOp, go_sem, E2]) ⟨hIW, fun _ _ h => h, _, by decide, rfl, RP.set ((HPI8.out _ _ _).2 rfl)⟩
        | 9, _, hdep0, hev =>
          have hce : (c || decide (9 = 7)) = c := by cases c <;> rfl
          simp only [hce]
          have hd8 := (HPI8.out _ _ _).1 (hdep0 8 (by kernel_rfl))
          have E61 : a1.tmps[61]?.getD undef = .pointer (some ⟨w.heap.size, 0, none⟩) := by rw [← ha1]; exact (putsL_in2 _ _ _ _ (by decide) (show 61 < 68 from by decide)).trans hd8
          have v0 : W.cell? ⟨w.heap.size, 0, none⟩ = some (.slice aS n cS) := by simpa using HML.out W hIW 0
          exact wpOp_val rfl rfl (v := .slice aS n cS) (w' := W) (by simp [execOp, go_sem, E61, v0]) ⟨hIW, fun _ _ h => h, _, by decide, rfl, RP.set ((HPI9.out _ _ _).2 rfl)⟩
        | 10, _, hdep0, hev =>
          have hce : (c || decide (10 = 7)) = c := by cases c <;> rfl
          simp only [hce]
          have E9 : a1.tmps[9]?.getD undef = .int .i64 (n : Int) := by rw [← ha1]; exact (putsL_out2 _ _ _ _ (by decide)).trans rfl
          exact wpOp_val rfl rfl (v := .int .i64 (n : Int)) (w' := W) (by simp [execOp, go_sem, E9]) ⟨hIW, fun _ _ h => h, _, by decide, rfl, RP.set ((HPI10.out _ _ _).2 rfl)⟩
        | 11, _, hdep0, hev =>
          have hce : (c || decide (11 = 7)) = c := by cases c <;> rfl
          simp only [hce]
          have hd9 := (HPI9.out _ _ _).1 (hdep0 9 (by kernel_rfl))
          have hd10 := (HPI10.out _ _ _).1 (hdep0 10 (by kernel_rfl))
          have E62 : a1.tmps[62]?.getD undef = .slice aS n cS := by rw [← ha1]; exact (putsL_in2 _ _ _ _ (by decide) (show 62 < 68 from by decide)).trans hd9
          have E63 : a1.tmps[63]?.getD undef = .int .i64 (n : Int) := by rw [← ha1]; exact (putsL_in2 _ _ _ _ (by decide) (show 63 < 68 from by decide)).trans hd10
          refine wpOp_from rfl rfl (.tmp 62) (.tmp 63) 25 rfl Try.underlying25 7 HSZ7.out aS n cS n ?_ ?_ (Nat.le_refl _) ?_
          · show a1.tmps.getD 62 undef = _
            rw [Array.getD_eq_getD_getElem?]
            exact E62
          · show a1.tmps.getD 63 undef = _
            rw [Array.getD_eq_getD_getElem?]
            exact E63
          · rw [Nat.sub_self]
            exact ⟨hIW, fun _ _ h => h, _, by decide, rfl, RP.set ((HPI11.out _ _ _).2 ⟨_, _, rfl⟩)⟩
        | iq + 12, h, _, _ => exact absurd h (by omega)
      case refine_2 =>
        intro f W hIW hR
        have h60 := (HPI7.out _ _ _).1 (hR 7 (by decide))
        have h64 := (HPI11.out _ _ _).1 (hR 11 (by decide))
        obtain ⟨dv, h60, hown⟩ := h60
        obtain ⟨aE, cE, h64⟩ := h64
        exact ⟨dv, aE, cE, h60, h64, hIW, hown⟩
      case refine_3 =>
        intro iq hsq hiq f W hIt0
        have hiq2 : iq < 15 := hiq
        have hIt := hIt0
        clear hIt0
        rcases (show iq = 12 ∨ iq = 13 ∨ iq = 14 by omega) with rfl | rfl | rfl
        · clear hsq hiq hiq2
          obtain ⟨dv, aE, cE, h60, h64, hIW, hown⟩ := hIt
          refine wpOp_ownO rfl rfl (.tmp 60) (.tmp 64) 25 rfl w6.heap.size 55 i0 (.agg #[.int .i64 0, .int .i64 0, .int .i64 0, .int .i64 0, .int .i64 0, .int .i64 0, .bool false]) 7 56 Try.underlying25 hi0 hz0 hz1 hz2 rfl (by decide) dv (n + 1) (CL ++ [.int .i64 s0, .int .i64 s1, .int .i64 s2, .int .i64 s3, .int .i64 s4, .int .i64 s5, .bool s6]) ?_ hown aE 0 cE [] ?_ rfl (Or.inl rfl) (by simp) (by unfold maxLen; omega) (by omega) (HJO.out W hIW).size ?_
          · exact (putsL_in _ _ _ _ (by decide) (show 60 < 68 from by decide)).trans h60
          · exact (putsL_in _ _ _ _ (by decide) (show 64 < 68 from by decide)).trans h64
          · intro v' w' h2 h3
            rw [Nat.add_zero, List.append_nil] at h2
            have hnew : ∃ uq : Value, updF f 65 v' 65 = uq ∧ J w' ∧ w'.ownsRow w6.heap.size 55 7 uq (n + 1) (CL ++ [.int .i64 s0, .int .i64 s1, .int .i64 s2, .int .i64 s3, .int .i64 s4, .int .i64 s5, .bool s6]) := ⟨v', updF_same _ _ _, HJI.out _ ((HJO.out W hIW).grown h3 (HJO.out W hIW).size fun j e => ownBlock_le hown j e), h2⟩
            exact ⟨updF f 65 v', putsL_put _ _ _ _ _ (by decide), hnew⟩
        · clear hsq hiq hiq2
          obtain ⟨u, h49, hIW, hown⟩ := hIt
          generalize ha1 : putsL _ [53, 54, 55, 56, 57, 58, 59, 60, 61, 62, 63, 64, 65, 66] f = a1
          have E2 : a1.tmps[2]?.getD undef = .pointer (some ⟨w.heap.size, 0, none⟩) := by rw [← ha1]; exact (putsL_out2 _ _ _ _ (by decide)).trans rfl
          have hnew : ∃ uq : Value, (updF f 66 (.pointer (some ⟨w.heap.size, 0, none⟩))) 65 = uq ∧ (updF f 66 (.pointer (some ⟨w.heap.size, 0, none⟩))) 66 = .pointer (some ⟨w.heap.size, 0, none⟩) ∧ J W ∧ W.ownsRow w6.heap.size 55 7 uq (n + 1) (CL ++ [.int .i64 s0, .int .i64 s1, .int .i64 s2, .int .i64 s3, .int .i64 s4, .int .i64 s5, .bool s6]) := ⟨_, (updF_other f _ (by decide)).trans h49, updF_same _ _ _, hIW, hown⟩
          exact wpOp_val rfl rfl (v := .pointer (some ⟨w.heap.size, 0, none⟩)) (w' := W) (by simp [execOp, go_sem, E2]) ⟨updF f 66 (.pointer (some ⟨w.heap.size, 0, none⟩)), by rw [← ha1]; exact putsL_put _ _ _ _ _ (by decide), hnew⟩
        · clear hsq hiq hiq2
          obtain ⟨u, h50, h51, hIW, hown⟩ := hIt
          obtain ⟨au, cu, rfl, -, -⟩ := owns_gen hown
          generalize ha1 : putsL _ [53, 54, 55, 56, 57, 58, 59, 60, 61, 62, 63, 64, 65, 66] f = a1
          have E65 : a1.tmps[65]?.getD undef = .slice au (n + 1) cu := by rw [← ha1]; exact (putsL_in2 _ _ _ _ (by decide) (show 65 < 68 from by decide)).trans h50
          have E66 : a1.tmps[66]?.getD undef = .pointer (some ⟨w.heap.size, 0, none⟩) := by rw [← ha1]; exact (putsL_in2 _ _ _ _ (by decide) (show 66 < 68 from by decide)).trans h51
          have hR := HMR.out W hIW
          have p2 := obj_cell hR 0
          have f2 := obj_free hR 0
          simp at p2
          have hnew : ∃ (ut : Option Addr) (ct : Nat) (W0 : World), J W0 ∧ (W.setCell ⟨w.heap.size, 0, none⟩ (.slice au (n + 1) cu)) = W0.setCell ⟨w.heap.size, 0, none⟩ (.slice ut (n + 1) ct) ∧ W0.ownsRow w6.heap.size 55 7 (.slice ut (n + 1) ct) (n + 1) (CL ++ [.int .i64 s0, .int .i64 s1, .int .i64 s2, .int .i64 s3, .int .i64 s4, .int .i64 s5, .bool s6]) := ⟨au, cu, W, hIW, rfl, hown⟩
          exact wpOp_skip rfl rfl (w' := W.setCell ⟨w.heap.size, 0, none⟩ (.slice au (n + 1) cu)) (by simp [execOp, go_sem, E65, E66, p2, f2]) ⟨f, ha1.symm, hnew⟩
      case refine_4 =>
        intro f W hIt
        simp only [putsL, List.foldl_cons, List.foldl_nil, Act.put, List.setIfInBounds_toArray, List.set_cons_zero, List.set_cons_succ]
        obtain ⟨ut, ct, W0, hJ0, rfl, hown⟩ := hIt
        have hb0 := HJO.out W0 hJ0
        have hR := HMR.out W0 hJ0
        have hset := obj_set hR 0 (.slice ut (n + 1) ct)
        simp only [List.setIfInBounds_toArray, List.set_cons_zero, List.set_cons_succ] at hset
        have hg : W0.grownBy (W0.setCell ⟨w.heap.size, 0, none⟩ (.slice ut (n + 1) ct)) (some w.heap.size) := setCell_grown _ _
        have HT : Hid (ListAt Sec.cells 7 (W0.setCell ⟨w.heap.size, 0, none⟩ (.slice ut (n + 1) ct)) (.slice ut (n + 1) ct) (r.secs ++ [(⟨s0, s1, s2, s3, s4, s5, s6⟩ : Sec)])) := Lib.hid (by
          have h8 : W0.ownsRow w6.heap.size 55 7 (.slice ut (n + 1) ct) (r.secs ++ [(⟨s0, s1, s2, s3, s4, s5, s6⟩ : Sec)]).length (cellsL Sec.cells (r.secs ++ [(⟨s0, s1, s2, s3, s4, s5, s6⟩ : Sec)])) := by
            rw [List.length_append, ← HN.out, ← cellsL_snoc, ← HCLE.out]; exact hown
          exact (ListAt.owns h8).keepR secF (fun s => ⟨s.id, rfl⟩) hR hg)
        have HHH := Lib.hid ((HHHK.out W0 hb0).keepR hldF (fun s => ⟨s.sec, rfl⟩) hR hg)
        have HMM := Lib.hid ((HMMK.out W0 hb0).keepR mvF (fun s => ⟨s.num, rfl⟩) hR hg)
        have HBF : Hid (Below w.heap.size w (W0.setCell ⟨w.heap.size, 0, none⟩ (.slice ut (n + 1) ct))) := Lib.hid ((HB7.out.trans (hb0.mono HB7.out.size)).grown hg (HB7.out.trans (hb0.mono HB7.out.size)).size (fun j e => by injection e with e; omega))
        have HOF : Hid ((W0.setCell ⟨w.heap.size, 0, none⟩ (.slice ut (n + 1) ct)).heap[w.heap.size + 2]? = some (.cells #[.slice none 0 0, .slice none 0 0, .slice none 0 0] 29 (0, 0))) := Lib.hid ((hg.block _ (obj_lt (HOO.out W0 hb0)) (by simp)).trans (HOO.out W0 hb0))
        have HSF := Lib.hid hset
        generalize W0.setCell ⟨w.heap.size, 0, none⟩ (.slice ut (n + 1) ct) = w9 at HT HHH HMM HBF HOF HSF ⊢
        clear hb0 hR hset hg hown hJ0
        have hs6 := HSF.out
        have ho6 := HOF.out
        have p0 := obj_cell hs6 0
        have p1 := obj_cell hs6 1
        have p2 := obj_cell hs6 2
        simp at p0 p1 p2
        have o0 := obj_cell ho6 0
        have o1 := obj_cell ho6 1
        have o2 := obj_cell ho6 2
        have of0 := obj_free ho6 0
        have of1 := obj_free ho6 1
        have of2 := obj_free ho6 2
        simp at o0 o1 o2
        clear hs6 ho6
        go_wp2
        have HFIN := Lib.hid (show RegAt w9 (.slice ut (n + 1) ct) (.slice aH nH cH) (.slice aM nM cM) ⟨r.secs ++ [(⟨s0, s1, s2, s3, s4, s5, s6⟩ : Sec)], r.hs, r.ms⟩ from ⟨HT.out, HHH.out, HMM.out⟩)
        refine ret3 HOF.out rfl _ _ _ (fun F hF => ?_) rfl ⟨_, _, _, rfl, HFIN.out.keepR HOF.out (put3_grown w9 (w.heap.size + 2) _ _ _), put3_below HBF.out (by omega) _ _ _⟩
        have q0 := obj_cell hF 0
        have q1 := obj_cell hF 1
        have q2 := obj_cell hF 2
        simp [results, Try.results25, go_sem, q0, q1, q2]

end Go.Proofs.Ytblidmkkbcobgaa
