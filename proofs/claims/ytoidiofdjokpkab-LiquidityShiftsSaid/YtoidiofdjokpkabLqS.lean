/- The walk of LiquidityShifts: moving the band and the positions by one amount changes nothing of a plan; for every tape and amount. -/
import Derived.Test.YtoidiofdjokpkabLqI
set_option linter.unusedSimpArgs false
set_option linter.unusedVariables false
namespace Go.Proofs.Ytoidiofdjokpkab
open Go.RowKit Go.Lib Go.Proofs

theorem shift_ok {lo hi lt mr mp t a : Int} : okB ⟨lo + t, hi + t, lt, mr, mp⟩ (a + t) = okB ⟨lo, hi, lt, mr, mp⟩ a ∧ raiseI ⟨lo + t, hi + t, lt, mr, mp⟩ (a + t) = raiseI ⟨lo, hi, lt, mr, mp⟩ a ∧ placeI ⟨lo + t, hi + t, lt, mr, mp⟩ (a + t) = placeI ⟨lo, hi, lt, mr, mp⟩ a := by
  have hl : ∀ x, lotsI ⟨lo + t, hi + t, lt, mr, mp⟩ x = lotsI ⟨lo, hi, lt, mr, mp⟩ x := fun x => rfl
  have hr : raiseI ⟨lo + t, hi + t, lt, mr, mp⟩ (a + t) = raiseI ⟨lo, hi, lt, mr, mp⟩ a := by
    unfold raiseI
    simp only
    rw [hl, show lo + t - (a + t) = lo - a by omega]
    by_cases h : a < lo
    · rw [if_pos h, if_pos (by omega)]
    · rw [if_neg h, if_neg (by omega)]
  have hp : placeI ⟨lo + t, hi + t, lt, mr, mp⟩ (a + t) = placeI ⟨lo, hi, lt, mr, mp⟩ a := by
    unfold placeI
    simp only
    rw [hl, show a + t - (hi + t) = a - hi by omega]
    by_cases h : a < lo
    · rw [if_pos h, if_pos (by omega)]
    · rw [if_neg h, if_neg (by omega)]
      by_cases h2 : hi < a
      · rw [if_pos h2, if_pos (by omega)]
      · rw [if_neg h2, if_neg (by omega)]
  refine ⟨?_, hr, hp⟩
  unfold okB
  rw [hr, hp]
  have hi2 : ∀ r p, inB (a + t + r - p) (lo + t) (hi + t) = inB (a + r - p) lo hi := fun r p => by
    unfold inB
    exact decide_eq_decide.2 ⟨fun h => by omega, fun h => by omega⟩
  unfold enoughB
  simp only [hi2]

def shiftP (t : Int) (p : Pos) : Pos := ⟨p.day, p.amt + t⟩
theorem shift_plans {lo hi lt mr mp t : Int} : ∀ l : List Pos, plansM ⟨lo + t, hi + t, lt, mr, mp⟩ (l.map (shiftP t)) = plansM ⟨lo, hi, lt, mr, mp⟩ l
  | [] => rfl
  | p :: l => by
    obtain ⟨h1, h2, h3⟩ := shift_ok (lo := lo) (hi := hi) (lt := lt) (mr := mr) (mp := mp) (t := t) (a := p.amt)
    have hR : decR ⟨lo + t, hi + t, lt, mr, mp⟩ (p.amt + t) = decR ⟨lo, hi, lt, mr, mp⟩ p.amt := by unfold decR; rw [h1, h2]
    have hP : decP ⟨lo + t, hi + t, lt, mr, mp⟩ (p.amt + t) = decP ⟨lo, hi, lt, mr, mp⟩ p.amt := by unfold decP; rw [h1, h3]
    have hpl : planOf ⟨lo + t, hi + t, lt, mr, mp⟩ (shiftP t p) = planOf ⟨lo, hi, lt, mr, mp⟩ p := by
      show (if 0 < decR ⟨lo + t, hi + t, lt, mr, mp⟩ (p.amt + t) ∨ 0 < decP ⟨lo + t, hi + t, lt, mr, mp⟩ (p.amt + t) then ([⟨p.day, decR ⟨lo + t, hi + t, lt, mr, mp⟩ (p.amt + t), decP ⟨lo + t, hi + t, lt, mr, mp⟩ (p.amt + t)⟩] : List Pl) else []) = _
      rw [hR, hP]
      rfl
    simp only [List.map_cons, plansM, shift_plans l, hpl]

/-- Positions that are moved are as good. -/
theorem shift_in {a t : Int} {l : List Pos} (h : PosOk a 0 l) (ha : a ≤ 300) (t0 : 0 ≤ t) (t1 : t ≤ 255) (hl : l.length ≤ 8) : PosIn (l.map (shiftP t)) := by
  refine ⟨fun p hp => ?_, fun p hp => ?_, fun i hi h0 hj => ?_, by simp; omega⟩
  · obtain ⟨q, hq, rfl⟩ := List.mem_map.1 hp
    obtain ⟨i, hi, rfl⟩ := List.getElem_of_mem hq
    obtain ⟨h1, h2, h3, h4, _⟩ := posOk_get h i hi
    simp only [shiftP]; omega
  · obtain ⟨q, hq, rfl⟩ := List.mem_map.1 hp
    obtain ⟨i, hi, rfl⟩ := List.getElem_of_mem hq
    obtain ⟨h1, h2, h3, h4, _⟩ := posOk_get h i hi
    simp only [shiftP]; omega
  · simp only [List.getElem_map, shiftP]
    exact (posOk_get h i (by simpa using hi)).2.2.2.2 h0 (by simpa using hj)

/-- The two plans, and days, and errors, are the same. -/
theorem shift_make {lo hi lt mr mp t : Int} {l : List Pos} {w1 w2 w1' w2' : World} {e1 e2 : Ending} (h1 : MakePost ⟨lo, hi, lt, mr, mp⟩ l w1 e1 w1') (h2 : MakePost ⟨lo + t, hi + t, lt, mr, mp⟩ (l.map (shiftP t)) w2 e2 w2') :
    ∃ (u1 u2 : Value) (d c : Int) (ps : List Pl), e1 = .returned (.tuple #[u1, .int .i64 d, .int .i64 c]) ∧ e2 = .returned (.tuple #[u2, .int .i64 d, .int .i64 c]) ∧ ListAt plC 3 w1' u1 ps ∧ ListAt plC 3 w2' u2 ps ∧ ps.length ≤ l.length ∧ Below w1.heap.size w1 w1' ∧ Below w2.heap.size w2 w2' := by
  have hs : ∀ p : Pos, okB ⟨lo + t, hi + t, lt, mr, mp⟩ (shiftP t p).amt = okB ⟨lo, hi, lt, mr, mp⟩ p.amt := fun p => shift_ok.1
  rcases h1 with ⟨ha1, u1, rfl, ho1, b1⟩ | ⟨k1, hk1, ha1, hn1, rfl, b1⟩
  · rcases h2 with ⟨ha2, u2, rfl, ho2, b2⟩ | ⟨k2, hk2, ha2, hn2, rfl, b2⟩
    · rw [shift_plans] at ho2
      exact ⟨u1, u2, _, _, _, rfl, rfl, ListAt.owns ho1, ListAt.owns ho2, plansM_len _ _, b1, b2⟩
    · simp only [List.getElem_map, hs] at hn2
      rw [ha1 _ (List.getElem_mem _)] at hn2
      cases hn2
  · rcases h2 with ⟨ha2, u2, rfl, ho2, b2⟩ | ⟨k2, hk2, ha2, hn2, rfl, b2⟩
    · have := ha2 _ (List.mem_map_of_mem (f := shiftP t) (List.getElem_mem hk1))
      rw [hs, hn1] at this
      cases this
    · simp only [List.getElem_map, hs] at hn2
      have hk2' : k2 < l.length := by simpa using hk2
      have hkk : k1 = k2 := by
        rcases Nat.lt_trichotomy k1 k2 with h | h | h
        · have hm : shiftP t l[k1] ∈ (l.map (shiftP t)).take k2 := by
            rw [← List.map_take]
            exact List.mem_map_of_mem (List.mem_take_iff_getElem.2 ⟨k1, by omega, rfl⟩)
          have := ha2 _ hm
          rw [hs, hn1] at this
          cases this
        · exact h
        · have hm : l[k2] ∈ l.take k1 := List.mem_take_iff_getElem.2 ⟨k2, by omega, rfl⟩
          have := ha1 _ hm
          rw [hn2] at this
          cases this
      subst hkk
      refine ⟨_, _, _, _, [], rfl, ?_, nil_listAt _ _ _ none 0, nil_listAt _ _ _ none 0, by simp, b1, b2⟩
      simp [shiftP]

set_option maxHeartbeats 8000000 in
theorem lqshifts_any (v : Value) (n : Nat) (x : Int) (w : World) (hi : IntsAt w v n w.heap.size) (hn : n ≤ 9223372036854775807) (x0 : 0 ≤ x) (x1 : x ≤ 255) :
    Calls Try.prog 5 #[v, .int .u8 x] w fun e w' => e = .returned (.bool true) ∧ Below w.heap.size w w' := by
  obtain ⟨i0, hi0, hz0, hz1, hz2⟩ := info_parts Try.infoPos
  have HNEW := Lib.hid (sNew_any v n w hi hn)
  have HSN := Lib.hid sane30_any
  clear hi hn
  go_enter Try.func5, Try.ntmps5
  go_wp2_with fail
  refine (HNEW.out).mono ?_
  rintro e w1 ⟨rfl, t1, b1⟩
  have HS := Lib.hid (sBand_any w.heap.size w1 t1)
  have B1 := Lib.hid b1
  clear t1 b1 HNEW
  go_wp2_with fail
  refine (HS.out).mono ?_
  rintro e w2 ⟨b, rfl, hok, hlo, hhi, hlt, hmr, hmp, hl4, t2, g2⟩
  have HP := Lib.hid (sPositions_any w.heap.size 8 w2 t2 (by decide))
  have HB2 := Lib.hid (B1.out.grown g2 B1.out.size (by simp))
  clear t2 g2 HS B1 hl4
  go_wp2_with fail
  with_reducible refine Calls.mono (HP.out) ?_
  rintro e w3 ⟨pv, l, rfl, hl8, hpo, hown, hsi⟩
  have HB3 := Lib.hid (HB2.out.grown hsi.old HB2.out.size (by simp))
  have hpi := posIn_of hpo (by decide) (by omega)
  have hla := ListAt.owns hown
  have HX := Lib.hid (show BInv w w3.heap.size b (w3.alloc (.cells b.cells.toArray 26)) from ⟨heap_alloc_new w3 _, HB3.out.alloc HB3.out.size _⟩)
  have HLA := Lib.hid (show ListAt posC 2 (w3.alloc (.cells b.cells.toArray 26)) pv l from hla.below (below_alloc _ _))
  have HPI := Lib.hid hpi
  have HPO := Lib.hid hpo
  have HOK := Lib.hid hok
  have k0 := hok.lo0
  have k1 := hok.le
  clear HP HB2 hown hsi hla hpi hpo hok HB3
  obtain ⟨lo, hi, lt, mr, mp⟩ := b
  simp only [Bnd.cells] at HX HLA hlo hhi hlt hmr hmp k0 k1 ⊢
  have hokc : BndOk ⟨lo + x, hi + x, lt, mr, mp⟩ := bnd_ok_mk (by omega) (by omega) (by omega) HOK.out.lot0 HOK.out.lot1 HOK.out.mr0 HOK.out.mr1 HOK.out.mp0 HOK.out.mp1
  have HOKC := Lib.hid hokc
  have HSI := Lib.hid (shift_in HPO.out (by decide) x0 x1 hl8)
  obtain ⟨ao, cap, rfl, hcap, hc⟩ := HLA.out.shape posF
  obtain ⟨m, hm⟩ : ∃ m, m = l.length := ⟨_, rfl⟩
  have HMM := Lib.hid hm
  have HC := Lib.hid hc
  have HAM := Lib.hid (fun i (h : i < l.length) => (posOk_get HPO.out i h))
  rw [← hm] at hcap hl8
  have HLA2 : Hid (ListAt posC 2 (w3.alloc (.cells #[.int .i64 lo, .int .i64 hi, .int .i64 lt, .int .i64 mr, .int .i64 mp] 26)) (.slice ao m cap) l) := Lib.hid (by rw [hm]; exact HLA.out)
  rw [← HMM.out]
  have HCX := Lib.hid (show (w3.alloc (.cells #[.int .i64 lo, .int .i64 hi, .int .i64 lt, .int .i64 mr, .int .i64 mp] 26)).heap.size = w3.heap.size + 1 by simp)
  have hx2 := HX.out.below (below_alloc (w3.alloc (.cells #[.int .i64 lo, .int .i64 hi, .int .i64 lt, .int .i64 mr, .int .i64 mp] 26)) (.cells #[.int .i64 (lo + x), .int .i64 (hi + x), .int .i64 lt, .int .i64 mr, .int .i64 mp] 26))
  have hy2 := alloc2_at w3 (.cells #[.int .i64 lo, .int .i64 hi, .int .i64 lt, .int .i64 mr, .int .i64 mp] 26) (.cells #[.int .i64 (lo + x), .int .i64 (hi + x), .int .i64 lt, .int .i64 mr, .int .i64 mp] 26)
  have HX2 := Lib.hid hx2
  have HY2 := Lib.hid hy2
  have HLA3 := Lib.hid (HLA2.out.below (below_alloc (w3.alloc (.cells #[.int .i64 lo, .int .i64 hi, .int .i64 lt, .int .i64 mr, .int .i64 mp] 26)) (.cells #[.int .i64 (lo + x), .int .i64 (hi + x), .int .i64 lt, .int .i64 mr, .int .i64 mp] 26)))
  clear hm hc hokc HLA HLA2 HX hx2 hy2
  go_wp2
  have HSZ := Lib.hid (show ((w3.alloc (.cells #[.int .i64 lo, .int .i64 hi, .int .i64 lt, .int .i64 mr, .int .i64 mp] 26)).alloc (.cells #[.int .i64 (lo + x), .int .i64 (hi + x), .int .i64 lt, .int .i64 mr, .int .i64 mp] 26)).heap.size = w3.heap.size + 2 by simp)
  generalize (w3.alloc (.cells #[.int .i64 lo, .int .i64 hi, .int .i64 lt, .int .i64 mr, .int .i64 mp] 26)).alloc (.cells #[.int .i64 (lo + x), .int .i64 (hi + x), .int .i64 lt, .int .i64 mr, .int .i64 mp] 26) = w4 at *
  have HCC : Hid (0 < m → ∃ b o, ao = some ⟨b, o, none⟩ ∧ b < w4.heap.size ∧ ∀ i (hi : i < l.length), ∀ j, j < 2 → w4.cell? ⟨b, o + i * 2 + j, none⟩ = (posC l[i])[j]?) := Lib.hid fun h => by
    obtain ⟨ao', cap', he, _, hh⟩ := HLA3.out.shape posF
    injection he with h1 h2 h3
    subst h1
    exact hh (by rw [← HMM.out]; exact h)
  clear HC HSZ HCX
  go_loopw [9, 39] (fun mv iv wr => ∃ k : Nat, iv = .int .i64 k ∧ k ≤ m ∧ wr.ownsRow w4.heap.size 37 2 mv k (cellsL posC ((l.take k).map (shiftP x))) ∧ Below w4.heap.size w4 wr) (fun _ iv _ => m - (RowKit.intOf iv).toNat)
  case atStart => exact ⟨0, rfl, by omega, World.ownsRow_nil _ _ _ _, Below.refl _ _⟩
  case round =>
    obtain ⟨k, rfl, hkm, hown, hbel⟩ := hrel
    by_cases hlt : k < m
    · have hlx : k < l.length := by rw [← HMM.out]; exact hlt
      obtain ⟨b, o, rfl, hb, hcc⟩ := HCC.out (by omega)
      have hcell := fun j (hj : j < 2) => (hbel.cell (p := ⟨b, o + k * 2 + j, none⟩) hb).trans (hcc k hlx j hj)
      have htk : (l.take (k + 1)).map (shiftP x) = (l.take k).map (shiftP x) ++ [shiftP x l[k]] := by rw [List.take_succ_eq_append_getElem hlx, List.map_append]; rfl
      obtain ⟨_, _, g1, g2, _⟩ := HAM.out k hlx
      generalize l[k] = q at *
      obtain ⟨d, a⟩ := q
      simp only at g1 g2
      have c0 := hcell 0 (by omega)
      have c1 := hcell 1 (by omega)
      simp [posC] at c0 c1
      have HTK := Lib.hid htk
      have hk0 : (0 : Int) ≤ (k : Int) := by omega
      have hk1 : (k : Int) < (m : Int) := by omega
      have HBE := Lib.hid hbel
      have hsz := hbel.size
      clear hcell hcc HCC htk hbel HAM
      go_wp2_with (at_builtin; refine wpList_append_own _ rfl _ _ 34 rfl w4.heap.size 37 i0 (.agg #[.int .i64 0, .int .i64 0]) 2 16 Try.underlying34 hi0 hz0 hz1 hz2 rfl (by decide) _ _ _ rfl ((hown.alloc _).alloc _) ⟨wr.heap.size + 1, 0, none⟩ 1 1 (posC ⟨d, a + x⟩) rfl rfl (new_cells _ _ _ _ (by simp)) (posF.one _) (by unfold maxLen; omega) (by omega) (by simp; omega) ?_; intro v' w5 hown5 hgr5 _)
      go_roundw
      case rel =>
        refine ⟨k + 1, by first | rfl | go_num, by omega, ?_, ?_⟩
        · rw [HTK.out]
          have h5 := cellsL_snoc posC ((l.take k).map (shiftP x)) ⟨d, a + x⟩
          rw [h5] at hown5
          exact hown5
        · exact ((HBE.out.alloc HBE.out.size _).alloc (by have := HBE.out.size; simp; omega) _).grown hgr5 (by have := HBE.out.size; simp; omega) fun r hr => by have := ownBlock_le hown r hr; omega
      case measure => simp [RowKit.intOf]; omega
    · obtain rfl : k = m := by omega
      have hall : l.take k = l := by rw [HMM.out]; exact List.take_length
      rw [hall] at hown
      have hla5 : ListAt posC 2 wr (.slice ao k cap) l := HLA3.out.below hbel
      have hX5 := HX2.out.below hbel
      have hy5 := obj_below HY2.out hbel
      have hlm : k = (l.map (shiftP x)).length := by rw [List.length_map]; exact HMM.out
      have hlc : ListAt posC 2 wr u9 (l.map (shiftP x)) := by rw [hlm] at hown; exact ListAt.owns hown
      have hla6 : ListAt posC 2 wr (.slice ao l.length cap) l := by rw [← HMM.out]; exact hla5
      have HM1 := Lib.hid (lqMake_any HOK.out HPI.out _ wr hla6)
      have HX5 := Lib.hid hX5
      have HY5 := Lib.hid hy5
      have HM2 := Lib.hid (fun W (hW : Below wr.heap.size wr W) => lqMake_any HOKC.out HSI.out u9 W (hlc.below hW))
      simp only [Bnd.cells] at HM1 HM2
      have hcb := HX5.out.box
      have v0 := obj_cell hcb 0
      have v1 := obj_cell hcb 1
      have v2 := obj_cell hcb 2
      have v3 := obj_cell hcb 3
      have v4 := obj_cell hcb 4
      simp [Bnd.cells] at v0 v1 v2 v3 v4
      have z0 := obj_cell hy5 0
      have z1 := obj_cell hy5 1
      have z2 := obj_cell hy5 2
      have z3 := obj_cell hy5 3
      have z4 := obj_cell hy5 4
      simp at z0 z1 z2 z3 z4
      clear hcb hy5 hla5 hla6 hlc hown hX5 HCC HAM hbel HLA3 HX2 HY2
      go_wp2_with fail
      with_reducible refine Calls.mono (HM1.out) ?_
      intro e1 w6 hm1
      have hb6 : Below wr.heap.size wr w6 := by
        rcases hm1 with ⟨_, _, _, _, b⟩ | ⟨_, _, _, _, _, b⟩ <;> exact b
      have HMA := Lib.hid hm1
      have HX6 := Lib.hid (HX5.out.below hb6)
      have hy6 := obj_below HY5.out hb6
      have HB6 := Lib.hid hb6
      have y0 := obj_cell hy6 0
      have y1 := obj_cell hy6 1
      have y2 := obj_cell hy6 2
      have y3 := obj_cell hy6 3
      have y4 := obj_cell hy6 4
      simp at y0 y1 y2 y3 y4
      have hsh : ∃ (q1 : Value) (d c : Int), e1 = .returned (.tuple #[q1, .int .i64 d, .int .i64 c]) := by
        rcases hm1 with ⟨_, u, h, _⟩ | ⟨_, _, _, _, h, _⟩
        · exact ⟨_, _, _, h⟩
        · exact ⟨_, _, _, h⟩
      obtain ⟨q1, d1, c1, rfl⟩ := hsh
      clear hm1 hb6 hy6 HX5 HY5 v0 v1 v2 v3 v4 z0 z1 z2 z3 z4 HM1
      go_wp2_with fail
      with_reducible refine Calls.mono (HM2.out _ HB6.out) ?_
      intro e2 w7 hm2
      obtain ⟨r1, r2, d, c, ps, he1, he2, hp1, hp2, hpl, hb1, hb2⟩ := shift_make HMA.out hm2
      subst he2
      simp only [Ending.returned.injEq, Value.tuple.injEq] at he1
      obtain ⟨rfl, rfl, rfl⟩ : q1 = r1 ∧ d1 = d ∧ c1 = c := by simpa using he1
      have HX7 := Lib.hid (HX6.out.below hb2)
      have HPS := Lib.hid (r30Plans_same ps (by have := HMM.out; omega) _ _ w7 (hp1.below hb2) hp2)
      clear he1 hm2 hp1 hp2 hpl hb1 hb2 HX6 HMA HM2 y0 y1 y2 y3 y4 HB6
      go_wp2_with (first | (go_at_call 14; refine (HPS.out).mono ?_; rintro e w8 ⟨rfl, b8⟩) | (go_at_call 11; refine (HSN.out _).mono ?_; rintro e w9 ⟨rfl, b9⟩))
      go_ret
      exact ⟨rfl, ((HX7.out.below b8).below b9).old⟩

end Go.Proofs.Ytoidiofdjokpkab
