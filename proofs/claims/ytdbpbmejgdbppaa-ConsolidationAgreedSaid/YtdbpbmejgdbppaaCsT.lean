/- Where both sides book everything nothing remains on the mutual accounts, nothing differs, and all is eliminated: for every tape. -/
import Derived.Test.YtdbpbmejgdbppaaCsQ
import Derived.Test.YtdbpbmejgdbppaaCsH
import Derived.Test.YtdbpbmejgdbppaaCsZ
set_option linter.unusedSimpArgs false
set_option linter.unusedVariables false
namespace Go.Proofs.Ytdbpbmejgdbppaa
open Go.RowKit Go.Lib Go.Proofs Go.Maps

theorem parM_take {l : List Pst} {j : Nat} (hj : j < l.length) : parM (l.take (j + 1)) = parM (l.take j) + (if l[j].par ≠ 0 then l[j].amt else 0) := by
  rw [List.take_succ_eq_append_getElem hj, parM_app]
  simp [parM]
theorem parM_bound : ∀ {l : List Pst}, (∀ p ∈ l, PstOk p) → 0 ≤ parM l ∧ parM l ≤ 1000000000000 * (l.length : Int)
  | [], _ => by simp [parM]
  | p :: l, h => by
    have ih := parM_bound fun q hq => h q (List.mem_cons_of_mem _ hq)
    have hp := (h p List.mem_cons_self).amt
    simp only [parM, List.length_cons]
    split <;> omega

set_option maxRecDepth 100000 in
set_option maxHeartbeats 16000000 in
theorem csagreed_any (v : Value) (n : Nat) (w : World) (hi : IntsAt w v n w.heap.size) (hn : n ≤ 9223372036854775807) :
    Calls Try.prog 5 #[v] w fun e w' => e = .returned (.bool true) ∧ Below w.heap.size w w' := by
  have HNEW := Lib.hid (sNew_any v n w hi hn)
  have HSN := Lib.hid sane43_true
  clear hi hn
  go_enter Try.func5, Try.ntmps5
  go_wp2_with fail
  refine (HNEW.out).mono ?_
  rintro e w1 ⟨rfl, t1, b1⟩
  obtain ⟨tb, htb⟩ : ∃ tb, tb = w.heap.size := ⟨_, rfl⟩
  rw [← htb] at t1 ⊢
  have HLG := Lib.hid (agreed43_any tb 5 w1 t1 (by omega))
  have HFIN : Hid (∀ W, SI w1 tb W → Below w.heap.size w W) := Lib.hid fun W hW => b1.grown hW.old b1.size (fun q e => by injection e with e; omega)
  clear t1 b1 HNEW htb
  go_wp2_with fail
  refine (HLG.out).mono ?_
  rintro e w2 ⟨l, lv, rfl, hag, hok, hday, hlen, hl, hsi⟩
  have HB2 := Lib.hid (HFIN.out _ hsi)
  obtain ⟨av, cv, rfl, hcap, hls⟩ := hl.shape pstF
  obtain ⟨nl, hnl⟩ : ∃ k, k = l.length := ⟨_, rfl⟩
  have HNL := Lib.hid hnl
  have HLS := Lib.hid hls
  rw [← hnl]
  rw [← hnl] at hl hcap hlen
  have HAG := Lib.hid hag
  have HOK := Lib.hid hok
  obtain ⟨bL, hbL⟩ : ∃ x, x = w2.heap.size := ⟨_, rfl⟩
  obtain ⟨w3, hw3⟩ : ∃ w3, w3 = w2.alloc (.cells #[.slice av nl cv] 27) := ⟨_, rfl⟩
  have HX3 : Hid (w3.heap[bL]? = some (.cells #[.slice av nl cv] 27 (0, 0))) := Lib.hid (by rw [hw3, hbL]; exact heap_alloc_new _ _)
  have HB3 : Hid (Below w.heap.size w w3) := Lib.hid (by rw [hw3]; exact HB2.out.alloc HB2.out.size _)
  have HD3 : Hid (Below w2.heap.size w2 w3) := Lib.hid (by rw [hw3]; exact below_alloc _ _)
  have HL3 : Hid (PstsAt w3 (.slice av nl cv) l) := Lib.hid (by rw [hw3]; exact ListAt.below hl (below_alloc _ _))
  have HW3 := Lib.hid hw3
  have HBL := Lib.hid hbL
  clear hw3 hl hsi hnl hbL HLG hag hok hday hls HFIN HB2
  go_upto_region 3 with fail
  rw [← HW3.out, ← HBL.out]
  clear HW3
  obtain ⟨bg, hbg⟩ : ∃ b, b = w3.heap.size := ⟨_, rfl⟩
  obtain ⟨w4, hw4⟩ : ∃ W, W = w3.alloc (.cells #[.int .i64 1, .int .i64 2, .int .i64 3] 3) := ⟨_, rfl⟩
  have HB4 : Hid (Below w.heap.size w w4) := Lib.hid (by rw [hw4]; exact HB3.out.alloc HB3.out.size _)
  have HD4 : Hid (Below w2.heap.size w2 w4) := Lib.hid (by rw [hw4]; exact HD3.out.alloc HD3.out.size _)
  have HL4 : Hid (PstsAt w4 (.slice av nl cv) l) := Lib.hid (by rw [hw4]; exact HL3.out.below (below_alloc _ _))
  have HX4 : Hid (w4.heap[bL]? = some (.cells #[.slice av nl cv] 27 (0, 0))) := Lib.hid (by rw [hw4]; exact obj_below HX3.out (below_alloc _ _))
  have HG4 : Hid (ListAt intC 1 w4 (.slice (some ⟨bg, 0, none⟩) 3 3) [1, 2, 3]) := Lib.hid (by rw [hw4, hbg]; exact list_newC intF w3 ([1, 2, 3] : List Int) 3)
  have HWH := Lib.hid (csWhole_right HOK.out (g := [1, 2, 3]) ⟨by decide, by decide, by decide, by decide⟩ 36000 ⟨by decide, by decide⟩ (.slice av nl cv) (.slice (some ⟨bg, 0, none⟩) 3 3) w4 HL4.out HG4.out)
  unfold WhPost at HWH
  rw [HAG.out.elim 36000 (fun x hx => (HOK.out.mem x hx).day.2), HAG.out.dif 36000 (fun q hq => (mem_eachQ hq).1)] at HWH
  obtain ⟨B, hB⟩ : ∃ B, B = balsM (wholeM 36000 l [1, 2, 3]) := ⟨_, rfl⟩
  have HBM : Hid (∀ b ∈ B, plainA b.acct) := Lib.hid fun b hb => by
    rw [hB] at hb
    have h1 := mem_bals hb
    by_cases hp : plainA b.acct
    · exact hp
    · exact absurd (h1.1.trans (HAG.out.whole 36000 hp)) h1.2.1
  have hBn : B.length ≤ 500 := by rw [hB]; exact bals_len _
  rw [← hB] at HWH
  obtain ⟨pm, hpm⟩ : ∃ q, q = parM l := ⟨_, rfl⟩
  have HPM := Lib.hid hpm
  rw [← hpm] at HWH
  have HW4 := Lib.hid hw4
  have HBG := Lib.hid hbg
  have s0 := obj_cell HX3.out 0
  simp at s0
  clear hw4 hbg hB hpm
  go_wp2_with fail
  rw [← HW4.out, ← HBG.out]
  refine (HWH.out).mono ?_
  rintro e w5 ⟨vb, vd, rfl, hownB, hownD, hb5⟩
  obtain ⟨ad, cd, hvd, -, -⟩ := owns_gen hownD
  simp only [List.length_nil] at hvd
  subst hvd
  obtain ⟨ab, cb, hvb, hcapB, hbs⟩ := (ListAt.owns hownB : ListAt balC 2 w5 vb B).shape balF
  obtain ⟨nb, hnb⟩ : ∃ k, k = B.length := ⟨_, rfl⟩
  have HNB := Lib.hid hnb
  rw [← hnb] at hvb hBn hcapB
  subst hvb
  have HBS := Lib.hid hbs
  obtain ⟨bW, hbW⟩ : ∃ b, b = w5.heap.size := ⟨_, rfl⟩
  obtain ⟨w6, hw6⟩ : ∃ W, W = w5.alloc (.cells #[.slice ab nb cb, .int .i64 pm, .slice ad 0 cd] 47) := ⟨_, rfl⟩
  have HB5 := HB4.out.trans (hb5.mono HB4.out.size)
  have HD5 := HD4.out.trans (hb5.mono HD4.out.size)
  have HB6 : Hid (Below w.heap.size w w6) := Lib.hid (by rw [hw6]; exact HB5.alloc HB5.size _)
  have HD6 : Hid (Below w2.heap.size w2 w6) := Lib.hid (by rw [hw6]; exact HD5.alloc HD5.size _)
  have HE6 : Hid (Below w5.heap.size w5 w6) := Lib.hid (by rw [hw6]; exact below_alloc _ _)
  have HX6 : Hid (w6.heap[bL]? = some (.cells #[.slice av nl cv] 27 (0, 0))) := Lib.hid (by rw [hw6]; exact obj_below (obj_below HX4.out hb5) (below_alloc _ _))
  have HY6 : Hid (w6.heap[bW]? = some (.cells #[.slice ab nb cb, .int .i64 pm, .slice ad 0 cd] 47 (0, 0))) := Lib.hid (by rw [hw6, hbW]; exact heap_alloc_new _ _)
  have HW6 := Lib.hid hw6
  have HBW := Lib.hid hbW
  clear hw6 hbW HB5 HD5 hb5 hownB hownD hbs hnb s0 HWH HB4 HD4 HL4 HX4 HG4 HL3 HX3 HB3 HD3 HW4 HBG
  go_upto_region 4 with fail
  rw [← HW6.out, ← HBW.out]
  have s0 := obj_cell HX6.out 0
  simp at s0
  have y0 := obj_cell HY6.out 0
  have y1 := obj_cell HY6.out 1
  have y2 := obj_cell HY6.out 2
  simp at y0 y1 y2
  go_wp2
  clear s0 y0 y1 y2
  go_loopw [7, 33] (fun sv iv wr => ∃ (s : Int) (j : Nat), sv = .int .i64 s ∧ iv = .int .i64 j ∧ j ≤ nl ∧ Hid (s = parM (l.take j)) ∧ Hid (Below w6.heap.size w6 wr)) (fun _ iv _ => nl - (RowKit.intOf iv).toNat)
  case atStart => exact ⟨0, 0, rfl, rfl, by omega, Lib.hid rfl, Lib.hid (Below.refl _ _)⟩
  case round =>
    obtain ⟨s, j, rfl, rfl, hjn, HS, HB⟩ := hrel
    by_cases hlt : j < nl
    · have hjl : j < l.length := by rw [← HNL.out]; exact hlt
      obtain ⟨b1, o1, rfl, hb1, hcc⟩ := HLS.out (by omega)
      have hB2 := HD6.out.trans (HB.out.mono HD6.out.size)
      have hcell := fun q (hq : q < 8) => (hB2.cell (p := ⟨b1, o1 + j * 8 + q, none⟩) hb1).trans (hcc j hjl q hq)
      have HTK := Lib.hid (parM_take hjl)
      have hpb := parM_bound (l := l.take j) fun p hp => HOK.out.mem p (List.mem_of_mem_take hp)
      have hlk : (l.take j).length = j := by rw [List.length_take]; omega
      rw [hlk, ← HS.out] at hpb
      have hxm := (HOK.out.mem _ (List.getElem_mem hjl)).amt
      have hj0 : (0 : Int) ≤ (j : Int) := by omega
      have hj1 : (j : Int) < (nl : Int) := by omega
      have hwj : IntKind.i64.wrap ((j : Int) + 1) = (j : Int) + 1 := IntWalk.i64_in _ (by omega)
      generalize l[j] = x at *
      obtain ⟨x0, x1, x2, x3, x4, x5, x6, x7⟩ := x
      simp only at hxm HTK
      have hws : IntKind.i64.wrap (s + x5) = s + x5 := IntWalk.i64_in _ (by omega)
      have c0 : wr.cell? ⟨b1, o1 + j * 8, none⟩ = some (.int .i64 x0) := hcell 0 (by omega)
      have c1 : wr.cell? ⟨b1, o1 + j * 8 + 1, none⟩ = some (.int .i64 x1) := hcell 1 (by omega)
      have c2 : wr.cell? ⟨b1, o1 + j * 8 + 2, none⟩ = some (.int .i64 x2) := hcell 2 (by omega)
      have c3 : wr.cell? ⟨b1, o1 + j * 8 + 3, none⟩ = some (.int .i64 x3) := hcell 3 (by omega)
      have c4 : wr.cell? ⟨b1, o1 + j * 8 + 4, none⟩ = some (.int .i64 x4) := hcell 4 (by omega)
      have c5 : wr.cell? ⟨b1, o1 + j * 8 + 5, none⟩ = some (.int .i64 x5) := hcell 5 (by omega)
      have c6 : wr.cell? ⟨b1, o1 + j * 8 + 6, none⟩ = some (.int .i64 x6) := hcell 6 (by omega)
      have c7 : wr.cell? ⟨b1, o1 + j * 8 + 7, none⟩ = some (.int .i64 x7) := hcell 7 (by omega)
      obtain ⟨w8, hw8⟩ : ∃ W, W = wr.alloc (.cells #[.int .i64 x0, .int .i64 x1, .int .i64 x2, .int .i64 x3, .int .i64 x4, .int .i64 x5, .int .i64 x6, .int .i64 x7] 41) := ⟨_, rfl⟩
      obtain ⟨bX, hbX⟩ : ∃ q, q = wr.heap.size := ⟨_, rfl⟩
      have hx8 : w8.heap[bX]? = some (.cells #[.int .i64 x0, .int .i64 x1, .int .i64 x2, .int .i64 x3, .int .i64 x4, .int .i64 x5, .int .i64 x6, .int .i64 x7] 41 (0, 0)) := by rw [hw8, hbX]; exact heap_alloc_new _ _
      have y5 := obj_cell hx8 5
      have y6 := obj_cell hx8 6
      simp at y5 y6
      have HB8 : Hid (Below w6.heap.size w6 w8) := Lib.hid (by rw [hw8]; exact HB.out.alloc HB.out.size _)
      have HW8 := Lib.hid hw8
      have HBX := Lib.hid hbX
      clear hcell hcc hx8 hw8 hbX hB2 hpb hlk
      go_upto_region 10 with fail
      rw [← HW8.out, ← HBX.out]
      clear c0 c1 c2 c3 c4 c5 c6 c7
      by_cases h6 : x6 = 0
      · rw [if_neg (fun h => h h6)] at HTK
        go_wp2
        go_roundw
        case rel => exact ⟨s, j + 1, rfl, by first | rfl | go_num, by omega, Lib.hid (by rw [HTK.out, HS.out]; omega), HB8⟩
        case measure => simp [RowKit.intOf]; omega
      · rw [if_pos h6] at HTK
        go_wp2
        go_roundw
        case rel => exact ⟨s + x5, j + 1, rfl, by first | rfl | go_num, by omega, Lib.hid (by rw [HTK.out, HS.out]), HB8⟩
        case measure => simp [RowKit.intOf]; omega
    · obtain rfl : j = nl := by omega
      obtain rfl : s = pm := by rw [HS.out, HPM.out, List.take_of_length_le (by rw [← HNL.out]; exact Nat.le_refl _)]
      have hy := obj_below HY6.out HB.out
      have y0 := obj_cell hy 0
      simp at y0
      clear hy
      go_wp2
      clear y0
      go_loopw [48] (fun iv wi => ∃ j : Nat, iv = .int .i64 j ∧ j ≤ nb ∧ Hid (Below w6.heap.size w6 wi)) (fun iv _ => nb - (RowKit.intOf iv).toNat)
      case atStart => exact ⟨0, rfl, by omega, HB⟩
      case round =>
        clear HB
        obtain ⟨i, rfl, hin, HB⟩ := hrel
        by_cases hlti : i < nb
        · have hil : i < B.length := by rw [← HNB.out]; exact hlti
          obtain ⟨b1, o1, rfl, hb1, hcc⟩ := HBS.out (by omega)
          have hB2 := HE6.out.trans (HB.out.mono HE6.out.size)
          have hcell := fun q (hq : q < 2) => (hB2.cell (p := ⟨b1, o1 + i * 2 + q, none⟩) hb1).trans (hcc i hil q hq)
          have hxm := HBM.out _ (List.getElem_mem hil)
          have hi0 : (0 : Int) ≤ (i : Int) := by omega
          have hi1 : (i : Int) < (nb : Int) := by omega
          have hwi : IntKind.i64.wrap ((i : Int) + 1) = (i : Int) + 1 := IntWalk.i64_in _ (by omega)
          generalize B[i] = x at *
          obtain ⟨x0, x1⟩ := x
          simp only [plainA] at hxm
          obtain ⟨m1, m2, m3, m4⟩ : (x0 == 140) = false ∧ (x0 == 240) = false ∧ (x0 == 440) = false ∧ (x0 == 540) = false := by simpa [beq_eq_false_iff_ne] using hxm
          clear hxm
          have c0 : wr.cell? ⟨b1, o1 + i * 2, none⟩ = some (.int .i64 x0) := hcell 0 (by omega)
          have c1 : wr.cell? ⟨b1, o1 + i * 2 + 1, none⟩ = some (.int .i64 x1) := hcell 1 (by omega)
          obtain ⟨w8, hw8⟩ : ∃ W, W = wr.alloc (.cells #[.int .i64 x0, .int .i64 x1] 51) := ⟨_, rfl⟩
          obtain ⟨bX, hbX⟩ : ∃ q, q = wr.heap.size := ⟨_, rfl⟩
          have hx8 : w8.heap[bX]? = some (.cells #[.int .i64 x0, .int .i64 x1] 51 (0, 0)) := by rw [hw8, hbX]; exact heap_alloc_new _ _
          have y0 := obj_cell hx8 0
          simp at y0
          have HB8 : Hid (Below w6.heap.size w6 w8) := Lib.hid (by rw [hw8]; exact HB.out.alloc HB.out.size _)
          have HW8 := Lib.hid hw8
          have HBX := Lib.hid hbX
          clear hcell hcc hx8 hw8 hbX hB2
          go_upto_region 16 with fail
          rw [← HW8.out, ← HBX.out]
          clear c0 c1
          go_wp2
          go_roundw
          case rel => exact ⟨i + 1, by first | rfl | go_num, by omega, HB8⟩
          case measure => simp [RowKit.intOf]; omega
        · obtain rfl : i = nb := by omega
          have hy := obj_below HY6.out HB.out
          have y1 := obj_cell hy 1
          simp at y1
          have HF := Lib.hid (HB6.out.trans (HB.out.mono HB6.out.size))
          clear hy
          go_wp2_with fail
          refine (HSN.out _).mono ?_
          rintro e w9 ⟨rfl, hb9⟩
          have HF2 := Lib.hid (HF.out.trans (hb9.mono HF.out.size))
          clear hb9 y1
          go_wp2
          go_ret
          exact ⟨rfl, HF2.out⟩

end Go.Proofs.Ytdbpbmejgdbppaa
