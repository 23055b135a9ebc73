/- The walk of ForecastAdds: the positions of two lists add up, less the open balance once, and the last one is the open balance and the sum of all flows; for every tape. -/
import Derived.Test.YthajkhonapjihaaFcQ
set_option linter.unusedSimpArgs false
set_option linter.unusedVariables false
namespace Go.Proofs.Ythajkhonapjihaa
open Go.RowKit Go.Lib Go.Proofs

theorem balK_app (o a : Int) (l k : List Flw) : ∀ n : Nat, balK o a (l ++ k) n = balK o a l n + balK o a k n - o
  | 0 => by show o = o + o - o; omega
  | n + 1 => by
    show balK o a (l ++ k) n + dayAmt (a + n) (l ++ k) = balK o a l n + dayAmt (a + n) l + (balK o a k n + dayAmt (a + n) k) - o
    rw [balK_app o a l k n, dayAmt_app]; omega
def sumAmt : List Flw → Int
  | [] => 0
  | f :: l => f.amt + sumAmt l
theorem sumAmt_snoc (f : Flw) : ∀ l : List Flw, sumAmt (l ++ [f]) = sumAmt l + f.amt
  | [] => by simp [sumAmt]
  | g :: l => by simp only [List.cons_append, sumAmt]; rw [sumAmt_snoc f l]; omega
theorem sumAmt_in {D : Int} : ∀ {l : List Flw}, FlwsOk D l → -1000 * (l.length : Int) ≤ sumAmt l ∧ sumAmt l ≤ 1000 * (l.length : Int)
  | [], _ => by simp [sumAmt]
  | f :: l, h => by
    have h1 := h f (by simp)
    have h2 := sumAmt_in (l := l) fun g hg => h g (List.mem_cons_of_mem _ hg)
    have := h1.a0
    have := h1.a1
    simp only [sumAmt, List.length_cons]
    omega
theorem balK_cons (o : Int) (f : Flw) (l : List Flw) (hf : 0 ≤ f.day) : ∀ n : Nat, balK o 0 (f :: l) n = balK o 0 l n + (if f.day < (n : Int) then f.amt else 0)
  | 0 => by show o = o + _; rw [if_neg (by omega)]; omega
  | n + 1 => by
    show balK o 0 (f :: l) n + ((if f.day = 0 + (n : Int) then f.amt else 0) + dayAmt (0 + n) l) = balK o 0 l n + dayAmt (0 + n) l + _
    rw [balK_cons o f l hf n]
    by_cases h1 : f.day < (n : Int)
    · rw [if_pos h1, if_neg (by omega), if_pos (by omega)]; omega
    · by_cases h2 : f.day = (n : Int)
      · rw [if_neg h1, if_pos (by omega), if_pos (by omega)]; omega
      · rw [if_neg h1, if_neg (by omega), if_neg (by omega)]; omega
theorem balK_nil (o : Int) : ∀ n : Nat, balK o 0 [] n = o
  | 0 => rfl
  | n + 1 => by show balK o 0 [] n + 0 = o; rw [balK_nil o n]; omega
theorem balK_all (o : Int) : ∀ {l : List Flw}, FlwsOk 29 l → balK o 0 l 32 = o + sumAmt l
  | [], _ => by rw [balK_nil]; simp [sumAmt]
  | f :: l, h => by
    have h1 := h f (by simp)
    have h2 := balK_all o (l := l) fun g hg => h g (List.mem_cons_of_mem _ hg)
    have := h1.d0
    have := h1.d1
    rw [balK_cons o f l h1.d0, h2, if_pos (by omega)]
    simp only [sumAmt]; omega

/-- A row of positions, later. -/
theorem proj_cells {base g cap : Nat} {e : TypeId} {w : World} {o : Int} {l : List Flw} (h : w.ownsRow base e 2 (.slice (some ⟨g, 0, none⟩) 32 cap) 32 (cellsL posC (projL o 0 l 32))) (k : Nat) (hk : k < 32) : w.cell? ⟨g, k * 2, none⟩ = some (.int .i64 (k : Int)) ∧ w.cell? ⟨g, k * 2 + 1, none⟩ = some (.int .i64 (balK o 0 l (k + 1))) := by
  have hl : k < (projL o 0 l 32).length := by rw [projL_len]; exact hk
  have h0 := cellsL_get posF (projL o 0 l 32) k 0 hl (by decide)
  have h1 := cellsL_get posF (projL o 0 l 32) k 1 hl (by decide)
  rw [projL_get] at h0 h1
  refine ⟨?_, ?_⟩
  · rw [h.cellAt (k * 2) (by omega)]; rw [Nat.add_zero] at h0; rw [h0]; simp [posC]
  · rw [h.cellAt (k * 2 + 1) (by omega), h1]; simp [posC]

set_option maxRecDepth 100000 in
set_option maxHeartbeats 8000000 in
theorem fcadds_any (v : Value) (n : Nat) (w : World) (hi : IntsAt w v n w.heap.size) (hn : n ≤ 9223372036854775807) :
    Calls Try.prog 5 #[v] w fun e w' => e = .returned (.bool true) ∧ Below w.heap.size w w' := by
  have HNEW := Lib.hid (sNew_any v n w hi hn)
  have HSN := Lib.hid sane29_any
  clear hi hn
  go_enter Try.func5, Try.ntmps5
  go_wp2_with fail
  refine (HNEW.out).mono ?_
  rintro e w1 ⟨rfl, t1, b1⟩
  have HF := Lib.hid (sFlows_any w.heap.size 8 w1 t1 (by decide))
  have HW1 := Lib.hid b1
  clear t1 b1 HNEW
  go_wp2_with fail
  with_reducible refine Calls.mono (HF.out) ?_
  rintro e w2 ⟨va, A, rfl, hlA, hokA, hoA, hs2⟩
  have HF2 := Lib.hid (sFlows_any w.heap.size 8 w2 hs2.src (by decide))
  have HOA := Lib.hid hoA
  have HS2 := Lib.hid hs2
  have HKA := Lib.hid hokA
  clear hoA hs2 hokA HF
  go_wp2_with fail
  with_reducible refine Calls.mono (HF2.out) ?_
  rintro e w2b ⟨vb, B, rfl, hlB, hokB, hoB, hs3⟩
  have HRG := Lib.hid (range_in hs3 (-100) 500 (by omega) (by omega) (by omega))
  have HW2 := Lib.hid (HW1.out.grown HS2.out.old HW1.out.size (by simp))
  have HOA2 := Lib.hid (HOA.out.kept hs3.old (ownBlock_ne HOA.out w.heap.size HS2.out.lt))
  have HOB2 := Lib.hid hoB
  have HS3 := Lib.hid hs3
  have HKB := Lib.hid hokB
  clear hs3 hoB hokB HF2
  go_wp2_with fail
  with_reducible refine Calls.mono (HRG.out) ?_
  rintro e w3 ⟨o, rfl, o0, o1, hi3, hg3⟩
  have HW3 := Lib.hid (HW2.out.grown hi3.old HW2.out.size (by simp))
  have hoA3 := HOA2.out.kept hg3 (ownBlock_ne HOA2.out w.heap.size HS2.out.lt)
  have hoB3 := HOB2.out.kept hg3 (ownBlock_ne HOB2.out w.heap.size HS3.out.lt)
  have HLA := Lib.hid (ListAt.owns hoA3)
  have HLB := Lib.hid (ListAt.owns hoB3)
  obtain ⟨ao, ca, rfl, _⟩ := owns_gen hoA3
  obtain ⟨bo, cb, rfl, _⟩ := owns_gen hoB3
  have HM1 := Lib.hid (fun (W : World) (hW : Below w3.heap.size w3 W) => fcMerge_ok (D := 29) (by decide) A B HKA.out HKB.out (by omega) (by omega) (.slice ao A.length ca) (.slice bo B.length cb) W.heap.size 2 (W.alloc (.cells #[.slice ao A.length ca, .slice bo B.length cb] 25)) (obj_cell (heap_alloc_new _ _) 0) (obj_cell (heap_alloc_new _ _) 1) (HLA.out.below (hW.alloc hW.size _)) (HLB.out.below (hW.alloc hW.size _)))
  unfold MergePost at HM1
  have PA := Lib.hid (fun W (hW : Below w3.heap.size w3 W) => fcProject_ok (D := 29) (by decide) HKA.out (by omega) _ W (HLA.out.below hW) o 0 31 32 (by omega) (by omega) (by decide) (by decide) (by decide) (by decide) (by decide) (by decide))
  have PB := Lib.hid (fun W (hW : Below w3.heap.size w3 W) => fcProject_ok (D := 29) (by decide) HKB.out (by omega) _ W (HLB.out.below hW) o 0 31 32 (by omega) (by omega) (by decide) (by decide) (by decide) (by decide) (by decide) (by decide))
  unfold ProjPost at PA PB
  have HOKX : Hid (∀ X : List Flw, X.Perm (A ++ B) → FlwsOk 29 X ∧ X.length = A.length + B.length ∧ ∀ j : Nat, balK o 0 X j = balK o 0 A j + balK o 0 B j - o) := Lib.hid fun X hX => ⟨ok_perm hX (fun f hf => by
    rcases List.mem_append.1 hf with h | h
    · exact HKA.out f h
    · exact HKB.out f h), by rw [hX.length_eq, List.length_append], fun j => by rw [balK_perm o 0 hX, balK_app]⟩
  have hbA := Lib.hid (fun j (hj : j ≤ 32) => show -1000000 ≤ balK o 0 A j ∧ balK o 0 A j ≤ 1000000 from by
    have h1 := balK_in o 0 HKA.out j
    have h2 : 1000 * (A.length : Int) * (j : Int) ≤ 1000 * 8 * 32 := Int.mul_le_mul (by omega) (by omega) (by omega) (by omega)
    omega)
  have hbB := Lib.hid (fun j (hj : j ≤ 32) => show -1000000 ≤ balK o 0 B j ∧ balK o 0 B j ≤ 1000000 from by
    have h1 := balK_in o 0 HKB.out j
    have h2 : 1000 * (B.length : Int) * (j : Int) ≤ 1000 * 8 * 32 := Int.mul_le_mul (by omega) (by omega) (by omega) (by omega)
    omega)
  generalize A ++ B = AB at *
  obtain ⟨m, hm⟩ : ∃ m, m = A.length := ⟨_, rfl⟩
  obtain ⟨k, hk⟩ : ∃ k, k = B.length := ⟨_, rfl⟩
  rw [← hm] at HM1 HOKX hlA PA ⊢
  rw [← hk] at HM1 HOKX hlB PB ⊢
  clear hoA3 hoB3 hi3 hg3 hm hk HLA HLB HKA HKB HOA HS2 HS3 HW2 HRG HOA2 HOB2
  go_wp2_with fail
  with_reducible refine Calls.mono (HM1.out _ (Below.refl _ _)) ?_
  rintro e w4 ⟨vx, rfl, X, hpX, hsX, hoX, b4⟩
  have HB4 := Lib.hid ((below_alloc w3 _).trans (b4.mono (below_alloc w3 _).size))
  have hx := HOKX.out X hpX
  have HOX := Lib.hid hoX
  have HBX := Lib.hid hx.2.2
  have HKX := Lib.hid hx.1
  have HXL := Lib.hid hx.2.1
  have HLX := Lib.hid (ListAt.owns (by rw [hx.2.1]; exact hoX))
  obtain ⟨xo, cx, rfl, _⟩ := owns_gen hoX
  have PX := Lib.hid (fun W (hW : Below w4.heap.size w4 W) => fcProject_ok (D := 29) (by decide) hx.1 (by rw [hx.2.1]; omega) _ W (HLX.out.below hW) o 0 31 32 (by omega) (by omega) (by decide) (by decide) (by decide) (by decide) (by decide) (by decide))
  unfold ProjPost at PX
  clear hpX hsX hoX b4 hx HM1 HOKX
  go_wp2_with fail
  with_reducible refine Calls.mono (PA.out _ HB4.out) ?_
  rintro e w5 ⟨vp, rfl, ho5, b5⟩
  have HO5 := Lib.hid ho5
  have HB45 := Lib.hid b5
  have HB5 := Lib.hid (HB4.out.trans (b5.mono HB4.out.size))
  clear ho5 b5 PA
  go_wp2_with fail
  with_reducible refine Calls.mono (PB.out _ HB5.out) ?_
  rintro e w6 ⟨vq, rfl, ho6, b6⟩
  have HO6 := Lib.hid ho6
  have HO56 := Lib.hid (ownsRow_below HO5.out b6)
  have HB46 := Lib.hid (HB45.out.trans (b6.mono HB45.out.size))
  clear ho6 b6 PB HO5 HB5 HB45
  go_wp2_with fail
  with_reducible refine Calls.mono (PX.out _ HB46.out) ?_
  rintro e w7 ⟨vr, rfl, ho7, b7⟩
  have HB47 := Lib.hid (HB46.out.trans (b7.mono HB46.out.size))
  have ho5 := ownsRow_below HO56.out b7
  have ho6 := ownsRow_below HO6.out b7
  obtain ⟨ga, ka, rfl, hga, _⟩ := owns_shape ho5 (by decide)
  obtain ⟨gb, kb, rfl, hgb, _⟩ := owns_shape ho6 (by decide)
  obtain ⟨gz, kz, rfl, hgz, _⟩ := owns_shape ho7 (by decide)
  have CA := Lib.hid (fun W (hW : Below w7.heap.size w7 W) j (hj : j < 32) => proj_cells (ownsRow_below ho5 hW) j hj)
  have CB := Lib.hid (fun W (hW : Below w7.heap.size w7 W) j (hj : j < 32) => proj_cells (ownsRow_below ho6 hW) j hj)
  have CZ := Lib.hid (fun W (hW : Below w7.heap.size w7 W) j (hj : j < 32) => proj_cells (ownsRow_below ho7 hW) j hj)
  have HLX7 := Lib.hid (HLX.out.below HB47.out)
  have hww : Below w.heap.size w w7 := HW3.out.trans ((HB4.out.trans (HB47.out.mono HB4.out.size)).mono HW3.out.size)
  have HWW := Lib.hid hww
  have HALL := Lib.hid (balK_all o HKX.out)
  obtain ⟨mk, hmk⟩ : ∃ mk : Nat, mk = m + k := ⟨_, rfl⟩
  have hsh := HLX7.out.shape flowF
  obtain ⟨xo', cx', he, _, hc⟩ := hsh
  simp only [Value.slice.injEq] at he
  obtain ⟨rfl, _, rfl⟩ := he
  have HC := Lib.hid hc
  rw [← hmk] at HXL
  have hmk16 : mk ≤ 16 := by omega
  have HMK := Lib.hid hmk
  have hmki : (m : Int) + (k : Int) = (mk : Int) := by omega
  have HMKI := Lib.hid hmki
  have HSI := Lib.hid (fun j => sumAmt_in (D := 29) (l := X.take j) fun f hf => HKX.out f (List.mem_of_mem_take hf))
  rw [← hmk]
  clear hmk hmki hc HLX7 hlA hlB HMKI HMK
  clear hww ho5 ho6 ho7 b7 PX HO6 HO56 HB46 HB47 HB4 HOX HLX HW3 HW1 hga hgb hgz
  go_wp2
  go_loopw [15, 84] (fun sv iv wr => ∃ (j : Nat) (t : Int), sv = .int .i64 t ∧ iv = .int .i64 (j : Int) ∧ j ≤ mk ∧ Hid (t = o + sumAmt (X.take j)) ∧ Hid (Below w7.heap.size w7 wr)) (fun _ iv _ => mk - (RowKit.intOf iv).toNat)
  case atStart => exact ⟨0, o, rfl, rfl, by omega, Lib.hid (by simp [sumAmt]), Lib.hid (Below.refl _ _)⟩
  case round =>
    obtain ⟨j, t, rfl, rfl, hj, HT, HB⟩ := hrel
    have hin := HSI.out j
    have htl : (X.take j).length ≤ j := by simp; omega
    have hte := HT.out
    have t0 : -100000 ≤ t := by omega
    have t1 : t ≤ 100000 := by omega
    clear hin htl hte
    by_cases hlt : j < mk
    · have hlx : j < X.length := by rw [HXL.out]; exact hlt
      obtain ⟨b, of, rfl, hb, hcc⟩ := HC.out (by omega)
      have hcell := fun q (hq : q < 4) => (HB.out.cell (p := ⟨b, of + j * 4 + q, none⟩) hb).trans (hcc j hlx q hq)
      have htk : sumAmt (X.take (j + 1)) = sumAmt (X.take j) + X[j].amt := by rw [List.take_succ_eq_append_getElem hlx, sumAmt_snoc]
      have hfo := HKX.out X[j] (List.getElem_mem hlx)
      have f0 := hfo.a0
      have f1 := hfo.a1
      generalize X[j] = f at *
      obtain ⟨fd, fa, fk, fr⟩ := f
      have c0 := hcell 0 (by omega)
      have c1 := hcell 1 (by omega)
      have c2 := hcell 2 (by omega)
      have c3 := hcell 3 (by omega)
      simp [flowC] at c0 c1 c2 c3
      simp only at htk f0 f1
      have HTK := Lib.hid htk
      have hj0 : (0 : Int) ≤ (j : Int) := by omega
      have hj1 : (j : Int) < (mk : Int) := by omega
      have HB2 := Lib.hid (HB.out.alloc HB.out.size (.cells #[.int .i64 fd, .int .i64 fa, .int .i64 fk, .int .i64 fr] 38))
      clear hcell hcc HC hfo htk
      go_wp2
      go_roundw
      case rel => exact ⟨j + 1, t + fa, rfl, by first | rfl | go_num, by omega, Lib.hid (by rw [HTK.out, HT.out]; omega), HB2⟩
      case measure => simp [RowKit.intOf]; omega
    · obtain rfl : j = mk := by omega
      have htk : X.take j = X := List.take_of_length_le (by rw [HXL.out]; exact Nat.le_refl _)
      rw [htk, ← HALL.out] at HT
      have ht := HT.out
      have HBW := Lib.hid HB.out
      clear htk HC HSI
      go_wp2
      go_loopw [95] (fun iv wx => ∃ (i : Nat), iv = .int .i64 (i : Int) ∧ i ≤ 32 ∧ Hid (Below w7.heap.size w7 wx)) (fun iv _ => 32 - (RowKit.intOf iv).toNat)
      case atStart => exact ⟨0, rfl, by omega, HBW⟩
      case round =>
        obtain ⟨i, rfl, hi32, HB⟩ := hrel
        by_cases hlt : i < 32
        · obtain ⟨z0, z1⟩ := CZ.out _ HB.out i hlt
          obtain ⟨x0, x1⟩ := CA.out _ HB.out i hlt
          obtain ⟨y0, y1⟩ := CB.out _ HB.out i hlt
          have hbx := HBX.out (i + 1)
          obtain ⟨a0, a1⟩ := hbA.out (i + 1) (by omega)
          obtain ⟨b0, b1⟩ := hbB.out (i + 1) (by omega)
          generalize balK o 0 X (i + 1) = za at *
          generalize balK o 0 A (i + 1) = xa at *
          generalize balK o 0 B (i + 1) = ya at *
          subst hbx
          have hi0 : (0 : Int) ≤ (i : Int) := by omega
          have hi1 : (i : Int) < 32 := by omega
          have HB2 : Hid (∀ q, Below w7.heap.size w7 (wr.drewN q)) := Lib.hid fun q => below_drewN HB.out q
          clear CZ CA CB HBX hbA hbB
          go_wp2
          go_quiet (fail)
          go_wp2
          go_roundw
          case rel => exact ⟨i + 1, by first | rfl | go_num, by omega, Lib.hid (HB2.out _)⟩
          case measure => simp [RowKit.intOf]; omega
        · obtain rfl : i = 32 := by omega
          obtain ⟨z0, z1⟩ := CZ.out _ HB.out 31 (by omega)
          rw [← ht] at z1
          simp only [Nat.reduceMul, Nat.reduceAdd] at z1
          have HSX := Lib.hid (HSN.out wr)
          clear z0 CZ CA CB HBX hbA hbB
          go_wp2_with (go_at_call 12; with_reducible refine Calls.mono (HSX.out) ?_; rintro e w11 ⟨rfl, b11⟩; have HB11 := Lib.hid (HB.out.trans (b11.mono HB.out.size)); clear b11)
          go_ret
          exact ⟨rfl, HWW.out.trans (HB11.out.mono HWW.out.size)⟩

end Go.Proofs.Ythajkhonapjihaa
