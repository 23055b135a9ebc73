/- The article's reference's Parse, at texts whose first word is that of kind 2. -/
import Derived.Test.YtdgckdmgplpobaaGreatDoorMG9
set_option linter.unusedSimpArgs false
set_option linter.unusedVariables false
namespace Go.Proofs.YtdgckdmgplpobaaGreatDoor
open Go.RowKit Go.Lib Go.Proofs

set_option maxRecDepth 100000 in
set_option maxHeartbeats 8000000 in
theorem rarParse_a (t : ByteArray) (w : World) (hL : Lay w) (hs : t.size ≤ 1000000) (hkd : kindTo (firstW t) 11 = 2) :
    Calls Tryz.prog 19 #[.string t] w (ParseP w (parseA t)) := by
  obtain ⟨i0, hi, hz0, hz1, hz2⟩ := infoS_parts
  obtain ⟨r, hr⟩ : ∃ r, r = parseA t := ⟨_, rfl⟩
  rw [← hr]
  rw [parse_cand] at hr
  have HR := Lib.hid hr
  have HL := Lib.hid hL
  have HKD := Lib.hid hkd
  have HS1 := Lib.hid (fun W => rarsplit_any t 1 W hs (by omega))
  have HS2 := Lib.hid (fun W => rarsplit_any t 2 W hs (by omega))
  have HS7 := Lib.hid (fun W => rarsplit_any t 7 W hs (by omega))
  have HTX : Hid (∀ (a : Art), a.code.size ≤ 1000000 → a.other.size ≤ 1000000 → a.name.size ≤ 1000000 → ∀ W, Lay W → Calls Tryz.prog 13 #[.agg a.cells] W fun e w' => e = .returned (.string (textA a)) ∧ Below W.heap.size W w') := Lib.hid fun a z1 z2 z3 W hW => by
    obtain ⟨kd, cd, ot, nm, yr, am, pc, nu, dy, ls, wh⟩ := a
    exact rtext_any kd cd ot nm yr am pc nu dy ls wh z1 z2 z3 W hW
  clear hr hL hkd
  go_enter Tryz.func19, Tryz.ntmps19
  go_wp2_with fail
  refine (HS1.out _).mono ?_
  rintro e w1 ⟨g1, cap1, rfl, o1, hb1⟩
  have hlt1 : w.heap.size < w1.heap.size := by have := hb1.size; simp at this; omega
  have hl1 := wordsK_len 0 t
  have hpos1 : 1 ≤ ((cutK 1 t.data.toList).map txt).length := by rw [List.length_map]; exact List.length_pos_iff.2 (splitK_ne _ _)
  have hres1 : ArtAt w1 w.heap.size Art.none := (hb1.block _ (by simp)).trans (heap_alloc_new w _)
  have hold1 : Below w.heap.size w w1 := (below_alloc w _).trans (hb1.mono (by simp))
  have hfw : ∀ W, Below w1.heap.size w1 W → W.cell? ⟨g1, 0, none⟩ = some (.string (firstW t)) := fun W hW => by
    rw [hW.cell (p := ⟨g1, 0, none⟩) (o1.lt g1 rfl).2, o1.cellAt 0 (by omega)]
    unfold cellsS firstW
    rw [List.getElem?_map, List.getD_eq_getElem?_getD, List.getElem?_eq_getElem (by omega)]
    rfl
  obtain ⟨n1, hn1⟩ : ∃ n1, n1 = ((cutK 1 t.data.toList).map txt).length := ⟨_, rfl⟩
  rw [← hn1] at hpos1 ⊢
  have hg1 : g1 < w1.heap.size ∧ w.heap.size < g1 := by have := o1.lt g1 rfl; simp at this; omega
  have HRES1 := Lib.hid hres1
  have HOLD1 := Lib.hid hold1
  have HFW := Lib.hid hfw
  clear hb1 o1 hres1 hold1 hfw hn1 hl1
  go_wp2_with (go_at_call 40; refine (rarWords_any _).mono ?_; rintro e w2 ⟨rfl, rfl⟩)
  obtain ⟨hn0, hk0⟩ := rp_new HRES1.out HOLD1.out hlt1 hg1.1 HFW.out
  have HN0 := Lib.hid hn0
  have HK0 := Lib.hid hk0
  have HC : Hid (candOf t = candA (kindTo (firstW t) 11) (pad8 (wordsK (kindTo (firstW t) 11) t))) := Lib.hid rfl
  generalize firstW t = F at *
  have e11 : kindW.length = 11 := rfl
  clear hn0 hk0
  go_loopw [13] (fun i wr => ∃ n : Nat, i = .int .i64 n ∧ n ≤ 11 ∧ Hid (RPInv w w1.heap.size { Art.none with kind := kindTo F n } wr) ∧ Hid (KInv w1.heap.size (w1.heap.size + 1) g1 F wr)) (fun i _ => 11 - (RowKit.intOf i).toNat)
  case atStart => exact ⟨0, rfl, by omega, HN0, HK0⟩
  case round =>
    obtain ⟨n, rfl, hn, HI, HK⟩ := hrel
    by_cases hlt : n < 11
    · have hk := HK.out.kinds n (by omega)
      have hf := HK.out.first
      have hst := kindTo_succ F n
      rw [kindW_get n (by omega)] at hst
      generalize kindW[n] = x at *
      have u0 := art_cell HI.out.art 0
      have fu0 := art_free HI.out.art 0
      simp only [Art.cells] at u0
      have hn0 : (0 : Int) ≤ (n : Int) := by omega
      have hn1 : (n : Int) < 11 := by omega
      by_cases hz : n = 0
      · subst hz
        have hst2 : kindTo F 1 = kindTo F 0 := hst.trans (if_neg fun h => absurd h.1 (by omega))
        have HI2 : Hid (RPInv w w1.heap.size { Art.none with kind := kindTo F 1 } wr) := Lib.hid (by rw [hst2]; exact HI.out)
        clear hst hst2
        go_wp2_with fail
        go_roundw
        case rel => exact ⟨1, by first | rfl | go_num, by omega, HI2, HK⟩
        case measure => simp [RowKit.intOf]
      · have hz1 : (0 : Int) < (n : Int) := by omega
        by_cases hx : x = F
        · have hx1 := strEq_true hx
          have hst2 : kindTo F (n + 1) = n := hst.trans (if_pos ⟨by omega, hx⟩)
          have HI2 : Hid (RPInv w w1.heap.size { Art.none with kind := kindTo F (n + 1) } (wr.setCell ⟨w1.heap.size, 0, none⟩ (.int .i64 n))) := Lib.hid (by rw [hst2]; exact HI.out.put 0 (.int .i64 n) rfl)
          have HK2 := Lib.hid (HK.out.put 0 (.int .i64 n))
          clear hst hst2 hx
          go_wp2_with fail
          go_roundw
          case rel => exact ⟨n + 1, by first | rfl | go_num, by omega, HI2, HK2⟩
          case measure => simp [RowKit.intOf]; omega
        · have hx1 := strEq_false hx
          have hst2 : kindTo F (n + 1) = kindTo F n := hst.trans (if_neg fun h => hx h.2)
          have HI2 : Hid (RPInv w w1.heap.size { Art.none with kind := kindTo F (n + 1) } wr) := Lib.hid (by rw [hst2]; exact HI.out)
          clear hst hst2 hx
          go_wp2_with fail
          go_roundw
          case rel => exact ⟨n + 1, by first | rfl | go_num, by omega, HI2, HK⟩
          case measure => simp [RowKit.intOf]; omega
    · obtain rfl : n = 11 := by omega
      have hkl := kindTo_lt F 10
      obtain ⟨k, hk⟩ : ∃ k, k = kindTo F 11 := ⟨_, rfl⟩
      rw [← hk] at HI HC hkl HKD
      have u0 := art_cell HI.out.art 0
      simp only [Art.cells] at u0
      have hge : ¬ ((11 : Nat) : Int) < 11 := by omega
      clear hk HK hn
      obtain rfl : k = 2 := HKD.out
      have hke : wordsK 2 t = (cutK 2 t.data.toList).map txt := rfl
      rw [hke] at HC
      clear hke
      go_wp2_with fail
      refine (HS2.out _).mono ?_
      rintro e w5 ⟨g5, cap5, rfl, o5, hb5⟩
      have HI5 := Lib.hid (HI.out.later hb5)
      obtain ⟨L, hL⟩ : ∃ L, L = (cutK 2 t.data.toList).map txt := ⟨_, rfl⟩
      rw [← hL] at o5 HC ⊢
      have hL8 : 1 ≤ L.length ∧ L.length ≤ 8 := by rw [hL]; exact wordsK_len 2 t
      have hLs : ∀ x ∈ L, x.size ≤ 1000000 := by rw [hL]; exact wordsK_size 2 t hs
      have hBs := hb5.size
      obtain ⟨bs, hbs⟩ : ∃ bs, bs = wr.heap.size := ⟨_, rfl⟩
      rw [← hbs] at o5 hBs
      have hBw : w1.heap.size < bs := by rw [hbs]; exact HI.out.art.lt
      have O5 : Hid (w5.ownsRow bs 9 1 (.slice (some ⟨g5, 0, none⟩) L.length cap5) (L.length + 0) (cellsS (padTo L 0))) := Lib.hid (by simpa [padTo] using o5)
      have HLS := Lib.hid hLs
      have HBS : Hid (bs ≤ w5.heap.size) := Lib.hid hBs
      clear o5 hb5 hL hLs u0 HI hbs hBs
      go_wp2_with fail
      go_loopw [4] (fun s wx => ∃ j : Nat, L.length + j ≤ 8 ∧ Hid (wx.ownsRow bs 9 1 s (L.length + j) (cellsS (padTo L j))) ∧ Hid (RPInv w w1.heap.size { Art.none with kind := 2 } wx) ∧ bs ≤ wx.heap.size) (fun s _ => 8 - sliceLen s)
      case atStart => exact ⟨0, by omega, O5, HI5, HBS.out⟩
      case round =>
        obtain ⟨j, hj8, HO, HI7, hbz⟩ := hrel
        obtain ⟨ao, cap, rfl, hcap, _⟩ := owns_gen HO.out
        obtain ⟨n, hn⟩ : ∃ n, n = L.length + j := ⟨_, rfl⟩
        rw [← hn] at HO hcap hj8 ⊢
        have HN := Lib.hid hn
        clear hn
        by_cases hlt : n < 8
        · have hn8 : (n : Int) < 8 := by omega
          go_wp2_with (at_builtin; refine wpList_append_own _ rfl _ _ 37 rfl bs 9 i0 (.string ⟨#[]⟩) 1 16 Tryz.underlying37 hi hz0 hz1 hz2 rfl (by decide) _ _ _ rfl (HO.out.alloc _) ⟨wr.heap.size, 0, none⟩ 1 1 [.string ⟨#[]⟩] rfl rfl (one_new _ _ _ _ rfl) (one_str _) (by unfold maxLen; omega) (by omega) (by simp; omega) ?_; intro v' w8 hown8 hgr8 _)
          have HI8 := Lib.hid ((HI7.out.later (below_alloc wr _)).grown hgr8 (fun r e => by have := ownBlock_le HO.out r e; omega))
          have hbz8 : bs ≤ w8.heap.size := by have := hgr8.size; simp at this; omega
          have HO8 : Hid (w8.ownsRow bs 9 1 v' (n + 1) (cellsS (padTo L (j + 1)))) := Lib.hid (by rw [padTo_succ, ← cellsS_snoc]; exact hown8)
          obtain ⟨ao8, cap8, rfl, _, _⟩ := owns_gen hown8
          clear hown8 hgr8
          go_roundw
          case rel => exact ⟨j + 1, by have := HN.out; omega, Lib.hid (by rw [show L.length + (j + 1) = n + 1 by have := HN.out; omega]; exact HO8.out), HI8, hbz8⟩
          case measure => simp [sliceLen]; omega
        · obtain rfl : n = 8 := by omega
          have hn8 : ¬ ((8 : Nat) : Int) < 8 := by omega
          obtain ⟨g8, rfl, hgb, hg8⟩ : ∃ g8, ao = some ⟨g8, 0, none⟩ ∧ bs ≤ g8 ∧ ∀ i (_ : i < 8), wr.cell? ⟨g8, i, none⟩ = (cellsS (padTo L j))[i]? := by
            obtain ⟨g8, c8, e8, hgb, _⟩ := owns_shape HO.out (by omega)
            injection e8 with e1 e2 e3
            subst e1
            exact ⟨g8, rfl, hgb, fun i hi => HO.out.cellAt i (by omega)⟩
          have hpad : pad8 L = padTo L j := by unfold pad8 padTo; rw [show 8 - L.length = j by have := HN.out; omega]
          rw [hpad] at HC
          have hpl : (padTo L j).length = 8 := by unfold padTo; rw [List.length_append, List.length_replicate]; have := HN.out; omega
          have hps : ∀ x ∈ padTo L j, x.size ≤ 1000000 := fun x hx => by
            unfold padTo at hx
            rcases List.mem_append.1 hx with hx | hx
            · exact HLS.out x hx
            · rw [(List.mem_replicate.1 hx).2]; exact Nat.zero_le _
          generalize padTo L j = ws at *
          obtain ⟨x0, x1, x2, x3, x4, x5, x6, x7, rfl⟩ := eight hpl
          have HV : Hid (∀ x, x.size ≤ 1000000 → ∀ W, Calls Tryz.prog 48 #[.string x] W fun e w' => e = .returned (.int .i64 (valI x)) ∧ w' = W) := Lib.hid fun x hx W => rarvalue_any x W hx
          have HPS := Lib.hid hps
          have hc : ∀ W, RPInv w w1.heap.size Art.none W → True := fun _ _ => trivial
          have c1 : wr.cell? ⟨g8, 1, none⟩ = some (.string x1) := hg8 1 (by omega)
          have c2 : wr.cell? ⟨g8, 2, none⟩ = some (.string x2) := hg8 2 (by omega)
          have c3 : wr.cell? ⟨g8, 3, none⟩ = some (.string x3) := hg8 3 (by omega)
          have c4 : wr.cell? ⟨g8, 4, none⟩ = some (.string x4) := hg8 4 (by omega)
          have c5 : wr.cell? ⟨g8, 5, none⟩ = some (.string x5) := hg8 5 (by omega)
          have c6 : wr.cell? ⟨g8, 6, none⟩ = some (.string x6) := hg8 6 (by omega)
          clear hg8
          have a9 := HI7.out.art
          have r9 := HI7.out.res
          have u0 := art_cell a9 0
          have fu0 := art_free a9 0
          have fr0 := art_free r9 0
          have rr0 := art_cell r9 0
          have u1 := art_cell a9 1
          have fu1 := art_free a9 1
          have fr1 := art_free r9 1
          have rr1 := art_cell r9 1
          have u2 := art_cell a9 2
          have fu2 := art_free a9 2
          have fr2 := art_free r9 2
          have rr2 := art_cell r9 2
          have u3 := art_cell a9 3
          have fu3 := art_free a9 3
          have fr3 := art_free r9 3
          have rr3 := art_cell r9 3
          have u4 := art_cell a9 4
          have fu4 := art_free a9 4
          have fr4 := art_free r9 4
          have rr4 := art_cell r9 4
          have u5 := art_cell a9 5
          have fu5 := art_free a9 5
          have fr5 := art_free r9 5
          have rr5 := art_cell r9 5
          have u6 := art_cell a9 6
          have fu6 := art_free a9 6
          have fr6 := art_free r9 6
          have rr6 := art_cell r9 6
          have u7 := art_cell a9 7
          have fu7 := art_free a9 7
          have fr7 := art_free r9 7
          have rr7 := art_cell r9 7
          have u8 := art_cell a9 8
          have fu8 := art_free a9 8
          have fr8 := art_free r9 8
          have rr8 := art_cell r9 8
          have u9 := art_cell a9 9
          have fu9 := art_free a9 9
          have fr9 := art_free r9 9
          have rr9 := art_cell r9 9
          have u10 := art_cell a9 10
          have fu10 := art_free a9 10
          have fr10 := art_free r9 10
          have rr10 := art_cell r9 10
          simp only [Art.cells, Art.none] at u0 rr0 u1 rr1 u2 rr2 u3 rr3 u4 rr4 u5 rr5 u6 rr6 u7 rr7 u8 rr8 u9 rr9 u10 rr10
          clear a9 r9
          have hcs : wr.cell? ⟨g8, 1, none⟩ = some (.string x1) ∧ wr.cell? ⟨g8, 2, none⟩ = some (.string x2) ∧ wr.cell? ⟨g8, 3, none⟩ = some (.string x3) ∧ wr.cell? ⟨g8, 4, none⟩ = some (.string x4) ∧ wr.cell? ⟨g8, 5, none⟩ = some (.string x5) ∧ wr.cell? ⟨g8, 6, none⟩ = some (.string x6) := ⟨c1, c2, c3, c4, c5, c6⟩
          have HST : Hid (∀ (W : World) (j : Nat) (v : Value), (W.cell? ⟨g8, 1, none⟩ = some (.string x1) ∧ W.cell? ⟨g8, 2, none⟩ = some (.string x2) ∧ W.cell? ⟨g8, 3, none⟩ = some (.string x3) ∧ W.cell? ⟨g8, 4, none⟩ = some (.string x4) ∧ W.cell? ⟨g8, 5, none⟩ = some (.string x5) ∧ W.cell? ⟨g8, 6, none⟩ = some (.string x6)) → ((W.setCell ⟨w1.heap.size, j, none⟩ v).cell? ⟨g8, 1, none⟩ = some (.string x1) ∧ (W.setCell ⟨w1.heap.size, j, none⟩ v).cell? ⟨g8, 2, none⟩ = some (.string x2) ∧ (W.setCell ⟨w1.heap.size, j, none⟩ v).cell? ⟨g8, 3, none⟩ = some (.string x3) ∧ (W.setCell ⟨w1.heap.size, j, none⟩ v).cell? ⟨g8, 4, none⟩ = some (.string x4) ∧ (W.setCell ⟨w1.heap.size, j, none⟩ v).cell? ⟨g8, 5, none⟩ = some (.string x5) ∧ (W.setCell ⟨w1.heap.size, j, none⟩ v).cell? ⟨g8, 6, none⟩ = some (.string x6))) := Lib.hid fun W j v h => by
            have hk : ∀ i, (W.setCell ⟨w1.heap.size, j, none⟩ v).cell? ⟨g8, i, none⟩ = W.cell? ⟨g8, i, none⟩ := fun i => World.cell?_of_block (setCell_other W v (by show g8 ≠ w1.heap.size; omega))
            exact ⟨(hk 1).trans h.1, (hk 2).trans h.2.1, (hk 3).trans h.2.2.1, (hk 4).trans h.2.2.2.1, (hk 5).trans h.2.2.2.2.1, (hk 6).trans h.2.2.2.2.2⟩
          go_upto_region 18 with fail
          go_region_held3 (fun W => W.cell? ⟨g8, 1, none⟩ = some (.string x1) ∧ W.cell? ⟨g8, 2, none⟩ = some (.string x2) ∧ W.cell? ⟨g8, 3, none⟩ = some (.string x3) ∧ W.cell? ⟨g8, 4, none⟩ = some (.string x4) ∧ W.cell? ⟨g8, 5, none⟩ = some (.string x5) ∧ W.cell? ⟨g8, 6, none⟩ = some (.string x6)) (first | exact hcs | exact HST.out _ _ _ (by assumption)) (first | (go_at_call 48; (refine (HV.out _ (HPS.out _ (by simp)) _).mono ?_); rintro e w' ⟨rfl, rfl⟩))
          obtain ⟨W9, hW9⟩ : ∃ W9, W9 = ((wr.setCell ⟨w1.heap.size, 1, none⟩ (.string x1)).setCell ⟨w1.heap.size, 3, none⟩ (.string x2)).drew := ⟨_, rfl⟩
          have HI9 : Hid (RPInv w w1.heap.size ⟨2, x1, ⟨#[]⟩, x2, 0, 0, 0, 0, 0, 0, 0⟩ W9) := Lib.hid (by rw [hW9]; exact ((HI7.out.put (a' := ⟨2, x1, ⟨#[]⟩, ⟨#[]⟩, 0, 0, 0, 0, 0, 0, 0⟩) 1 (.string x1) rfl).put (a' := ⟨2, x1, ⟨#[]⟩, x2, 0, 0, 0, 0, 0, 0, 0⟩) 3 (.string x2) rfl).drew)
          rw [← hW9]
          clear hW9 u0 fu0 fr0 rr0 u1 fu1 fr1 rr1 u2 fu2 fr2 rr2 u3 fu3 fr3 rr3 u4 fu4 fr4 rr4 u5 fu5 fr5 rr5 u6 fu6 fr6 rr6 u7 fu7 fr7 rr7 u8 fu8 fr8 rr8 u9 fu9 fr9 rr9 u10 fu10 fr10 rr10
          have hcand : candOf t = ⟨2, x1, ⟨#[]⟩, x2, 0, 0, 0, 0, 0, 0, 0⟩ := by rw [HC.out]; simp [candA, Art.none]
          have HPL := Lib.hid (fun W => rplain_any 2 x1 ⟨#[]⟩ x2 0 0 0 0 0 0 0 (HPS.out _ (by simp)) (Nat.zero_le _) (HPS.out _ (by simp)) W)
          have HTT := Lib.hid (HTX.out ⟨2, x1, ⟨#[]⟩, x2, 0, 0, 0, 0, 0, 0, 0⟩ (HPS.out _ (by simp)) (Nat.zero_le _) (HPS.out _ (by simp)))
          simp only [Art.cells] at HTT
          have HRR : Hid (r = if textA ⟨2, x1, ⟨#[]⟩, x2, 0, 0, 0, 0, 0, 0, 0⟩ ≠ ⟨#[]⟩ ∧ textA ⟨2, x1, ⟨#[]⟩, x2, 0, 0, 0, 0, 0, 0, 0⟩ = t then some ⟨2, x1, ⟨#[]⟩, x2, 0, 0, 0, 0, 0, 0, 0⟩ else none) := Lib.hid (by rw [HR.out, hcand])
          clear hcand
          have a9 := HI9.out.art
          have r9 := HI9.out.res
          have u0 := art_cell a9 0
          have fu0 := art_free a9 0
          have fr0 := art_free r9 0
          have rr0 := art_cell r9 0
          have u1 := art_cell a9 1
          have fu1 := art_free a9 1
          have fr1 := art_free r9 1
          have rr1 := art_cell r9 1
          have u2 := art_cell a9 2
          have fu2 := art_free a9 2
          have fr2 := art_free r9 2
          have rr2 := art_cell r9 2
          have u3 := art_cell a9 3
          have fu3 := art_free a9 3
          have fr3 := art_free r9 3
          have rr3 := art_cell r9 3
          have u4 := art_cell a9 4
          have fu4 := art_free a9 4
          have fr4 := art_free r9 4
          have rr4 := art_cell r9 4
          have u5 := art_cell a9 5
          have fu5 := art_free a9 5
          have fr5 := art_free r9 5
          have rr5 := art_cell r9 5
          have u6 := art_cell a9 6
          have fu6 := art_free a9 6
          have fr6 := art_free r9 6
          have rr6 := art_cell r9 6
          have u7 := art_cell a9 7
          have fu7 := art_free a9 7
          have fr7 := art_free r9 7
          have rr7 := art_cell r9 7
          have u8 := art_cell a9 8
          have fu8 := art_free a9 8
          have fr8 := art_free r9 8
          have rr8 := art_cell r9 8
          have u9 := art_cell a9 9
          have fu9 := art_free a9 9
          have fr9 := art_free r9 9
          have rr9 := art_cell r9 9
          have u10 := art_cell a9 10
          have fu10 := art_free a9 10
          have fr10 := art_free r9 10
          have rr10 := art_cell r9 10
          simp only [Art.cells, Art.none] at u0 rr0 u1 rr1 u2 rr2 u3 rr3 u4 rr4 u5 rr5 u6 rr6 u7 rr7 u8 rr8 u9 rr9 u10 rr10
          clear a9 r9
          by_cases hp : textA ⟨2, x1, ⟨#[]⟩, x2, 0, 0, 0, 0, 0, 0, 0⟩ = ⟨#[]⟩
          · rw [plainB_false hp] at HPL
            have HN : Hid (r = none) := Lib.hid (by rw [HRR.out, if_neg (fun h => h.1 hp)])
            clear hp
            go_wp2_with fail
            refine (HPL.out _).mono ?_
            rintro e w10 ⟨rfl, hb10⟩
            have HI10 := Lib.hid (HI9.out.later hb10)
            clear hb10
            clear u0 fu0 fr0 rr0 u1 fu1 fr1 rr1 u2 fu2 fr2 rr2 u3 fu3 fr3 rr3 u4 fu4 fr4 rr4 u5 fu5 fr5 rr5 u6 fu6 fr6 rr6 u7 fu7 fr7 rr7 u8 fu8 fr8 rr8 u9 fu9 fr9 rr9 u10 fu10 fr10 rr10
            have a9 := HI10.out.art
            have r9 := HI10.out.res
            have u0 := art_cell a9 0
            have fu0 := art_free a9 0
            have fr0 := art_free r9 0
            have rr0 := art_cell r9 0
            have u1 := art_cell a9 1
            have fu1 := art_free a9 1
            have fr1 := art_free r9 1
            have rr1 := art_cell r9 1
            have u2 := art_cell a9 2
            have fu2 := art_free a9 2
            have fr2 := art_free r9 2
            have rr2 := art_cell r9 2
            have u3 := art_cell a9 3
            have fu3 := art_free a9 3
            have fr3 := art_free r9 3
            have rr3 := art_cell r9 3
            have u4 := art_cell a9 4
            have fu4 := art_free a9 4
            have fr4 := art_free r9 4
            have rr4 := art_cell r9 4
            have u5 := art_cell a9 5
            have fu5 := art_free a9 5
            have fr5 := art_free r9 5
            have rr5 := art_cell r9 5
            have u6 := art_cell a9 6
            have fu6 := art_free a9 6
            have fr6 := art_free r9 6
            have rr6 := art_cell r9 6
            have u7 := art_cell a9 7
            have fu7 := art_free a9 7
            have fr7 := art_free r9 7
            have rr7 := art_cell r9 7
            have u8 := art_cell a9 8
            have fu8 := art_free a9 8
            have fr8 := art_free r9 8
            have rr8 := art_cell r9 8
            have u9 := art_cell a9 9
            have fu9 := art_free a9 9
            have fr9 := art_free r9 9
            have rr9 := art_cell r9 9
            have u10 := art_cell a9 10
            have fu10 := art_free a9 10
            have fr10 := art_free r9 10
            have rr10 := art_cell r9 10
            simp only [Art.cells, Art.none] at u0 rr0 u1 rr1 u2 rr2 u3 rr3 u4 rr4 u5 rr5 u6 rr6 u7 rr7 u8 rr8 u9 rr9 u10 rr10
            clear a9 r9
            go_wp2_with fail
            exact rp_end 0 ⟨#[]⟩ ⟨#[]⟩ ⟨#[]⟩ 0 0 0 0 0 0 0 4 HI10.out (Or.inr ⟨HN.out, rfl, rfl⟩) rfl rfl rfl
          · rw [plainB_true.2 hp] at HPL
            go_wp2_with fail
            refine (HPL.out _).mono ?_
            rintro e w10 ⟨rfl, hb10⟩
            have HI10 := Lib.hid (HI9.out.later hb10)
            clear hb10
            clear u0 fu0 fr0 rr0 u1 fu1 fr1 rr1 u2 fu2 fr2 rr2 u3 fu3 fr3 rr3 u4 fu4 fr4 rr4 u5 fu5 fr5 rr5 u6 fu6 fr6 rr6 u7 fu7 fr7 rr7 u8 fu8 fr8 rr8 u9 fu9 fr9 rr9 u10 fu10 fr10 rr10
            have a9 := HI10.out.art
            have r9 := HI10.out.res
            have u0 := art_cell a9 0
            have fu0 := art_free a9 0
            have fr0 := art_free r9 0
            have rr0 := art_cell r9 0
            have u1 := art_cell a9 1
            have fu1 := art_free a9 1
            have fr1 := art_free r9 1
            have rr1 := art_cell r9 1
            have u2 := art_cell a9 2
            have fu2 := art_free a9 2
            have fr2 := art_free r9 2
            have rr2 := art_cell r9 2
            have u3 := art_cell a9 3
            have fu3 := art_free a9 3
            have fr3 := art_free r9 3
            have rr3 := art_cell r9 3
            have u4 := art_cell a9 4
            have fu4 := art_free a9 4
            have fr4 := art_free r9 4
            have rr4 := art_cell r9 4
            have u5 := art_cell a9 5
            have fu5 := art_free a9 5
            have fr5 := art_free r9 5
            have rr5 := art_cell r9 5
            have u6 := art_cell a9 6
            have fu6 := art_free a9 6
            have fr6 := art_free r9 6
            have rr6 := art_cell r9 6
            have u7 := art_cell a9 7
            have fu7 := art_free a9 7
            have fr7 := art_free r9 7
            have rr7 := art_cell r9 7
            have u8 := art_cell a9 8
            have fu8 := art_free a9 8
            have fr8 := art_free r9 8
            have rr8 := art_cell r9 8
            have u9 := art_cell a9 9
            have fu9 := art_free a9 9
            have fr9 := art_free r9 9
            have rr9 := art_cell r9 9
            have u10 := art_cell a9 10
            have fu10 := art_free a9 10
            have fr10 := art_free r9 10
            have rr10 := art_cell r9 10
            simp only [Art.cells, Art.none] at u0 rr0 u1 rr1 u2 rr2 u3 rr3 u4 rr4 u5 rr5 u6 rr6 u7 rr7 u8 rr8 u9 rr9 u10 rr10
            clear a9 r9
            obtain ⟨tx, htx⟩ : ∃ tx, tx = textA ⟨2, x1, ⟨#[]⟩, x2, 0, 0, 0, 0, 0, 0, 0⟩ := ⟨_, rfl⟩
            rw [← htx] at HTT hp HRR
            clear htx
            go_wp2_with fail
            refine (HTT.out _ (HL.out.below HI10.out.old (Nat.le_refl _))).mono ?_
            rintro e w11 ⟨rfl, hb11⟩
            have HI11 := Lib.hid (HI10.out.later hb11)
            clear hb11
            clear u0 fu0 fr0 rr0 u1 fu1 fr1 rr1 u2 fu2 fr2 rr2 u3 fu3 fr3 rr3 u4 fu4 fr4 rr4 u5 fu5 fr5 rr5 u6 fu6 fr6 rr6 u7 fu7 fr7 rr7 u8 fu8 fr8 rr8 u9 fu9 fr9 rr9 u10 fu10 fr10 rr10
            have a9 := HI11.out.art
            have r9 := HI11.out.res
            have u0 := art_cell a9 0
            have fu0 := art_free a9 0
            have fr0 := art_free r9 0
            have rr0 := art_cell r9 0
            have u1 := art_cell a9 1
            have fu1 := art_free a9 1
            have fr1 := art_free r9 1
            have rr1 := art_cell r9 1
            have u2 := art_cell a9 2
            have fu2 := art_free a9 2
            have fr2 := art_free r9 2
            have rr2 := art_cell r9 2
            have u3 := art_cell a9 3
            have fu3 := art_free a9 3
            have fr3 := art_free r9 3
            have rr3 := art_cell r9 3
            have u4 := art_cell a9 4
            have fu4 := art_free a9 4
            have fr4 := art_free r9 4
            have rr4 := art_cell r9 4
            have u5 := art_cell a9 5
            have fu5 := art_free a9 5
            have fr5 := art_free r9 5
            have rr5 := art_cell r9 5
            have u6 := art_cell a9 6
            have fu6 := art_free a9 6
            have fr6 := art_free r9 6
            have rr6 := art_cell r9 6
            have u7 := art_cell a9 7
            have fu7 := art_free a9 7
            have fr7 := art_free r9 7
            have rr7 := art_cell r9 7
            have u8 := art_cell a9 8
            have fu8 := art_free a9 8
            have fr8 := art_free r9 8
            have rr8 := art_cell r9 8
            have u9 := art_cell a9 9
            have fu9 := art_free a9 9
            have fr9 := art_free r9 9
            have rr9 := art_cell r9 9
            have u10 := art_cell a9 10
            have fu10 := art_free a9 10
            have fr10 := art_free r9 10
            have rr10 := art_cell r9 10
            simp only [Art.cells, Art.none] at u0 rr0 u1 rr1 u2 rr2 u3 rr3 u4 rr4 u5 rr5 u6 rr6 u7 rr7 u8 rr8 u9 rr9 u10 rr10
            clear a9 r9
            by_cases he : tx = t
            · have he1 := strEq_true he
              have HN : Hid (r = some ⟨2, x1, ⟨#[]⟩, x2, 0, 0, 0, 0, 0, 0, 0⟩) := Lib.hid (by rw [HRR.out, if_pos ⟨hp, he⟩])
              clear hp he
              go_wp2_with fail
              exact rp_end 2 x1 ⟨#[]⟩ x2 0 0 0 0 0 0 0 0 HI11.out (Or.inl ⟨HN.out, rfl⟩) rfl rfl rfl
            · have he1 := strEq_false he
              have HN : Hid (r = none) := Lib.hid (by rw [HRR.out, if_neg (fun h => he h.2)])
              clear hp he
              go_wp2_with fail
              exact rp_end 0 ⟨#[]⟩ ⟨#[]⟩ ⟨#[]⟩ 0 0 0 0 0 0 0 4 HI11.out (Or.inr ⟨HN.out, rfl, rfl⟩) rfl rfl rfl

end Go.Proofs.YtdgckdmgplpobaaGreatDoor
