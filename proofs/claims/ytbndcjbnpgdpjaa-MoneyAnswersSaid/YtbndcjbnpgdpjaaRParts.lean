/- The contract of the reference's Parts where it divides: an amount, 1 to 200 weights within their range, not all of them 0: it returns the same parts. -/
import Derived.Test.YtbndcjbnpgdpjaaAppend
import Derived.Test.YtbndcjbnpgdpjaaRPartsM
import Derived.Test.YtbndcjbnpgdpjaaRef
namespace Go.Proofs.Ytbndcjbnpgdpjaa
open Go.RowKit Go.Sort Go.Shelf Go.Lib Go.Proofs

/-- Two slices of the call's own lie in different blocks. -/
def DJ (a b : Value) : Prop := ∀ g, a.ownBlock = some g → b.ownBlock ≠ some g

theorem DJ.symm {a b : Value} (h : DJ a b) : DJ b a := fun g hg hb => h g hb hg
theorem DJ.moved {a a' b : Value} {w : World} (h : DJ a b) (hm : Moved w a a') (hb : ∀ g, b.ownBlock = some g → g < w.heap.size) : DJ a' b := fun g hg hgb => by
  rcases hm with hm | hm
  · exact h g (by rw [← hm]; exact hg) hgb
  · have := hm g hg; have := hb g hgb; omega
theorem DJ.kept {a b : Value} (h : DJ a b) : b.ownBlock = none ∨ b.ownBlock ≠ a.ownBlock := by
  cases hb : b.ownBlock with
  | none => exact Or.inl rfl
  | some g => exact Or.inr fun e => h g e.symm hb

theorem cellsI_take (l : List Int) (k : Nat) (hk : k < l.length) (x : Int) (hx : x = l.getD k 0) : cellsI (l.take k) ++ [.int .i64 x] = cellsI (l.take (k + 1)) := by
  subst hx
  rw [List.take_succ_eq_append_getElem hk, getD_eq hk]
  unfold cellsI
  rw [List.map_append]
  rfl

set_option maxRecDepth 100000 in
set_option maxHeartbeats 4000000 in
theorem rParts_ok (T S : Int) (ws : List Int) (hlen : ws.length ≤ 200) (hpos : 0 < ws.length) (bw ow cw : Nat) (w : World) (hT : inB T 0 1000000000000 = true) (hw : ∀ x ∈ ws, 0 ≤ x ∧ x ≤ 1000000) (hS : sumI ws = S) (hS0 : 0 < S) (hbw : bw < w.heap.size)
    (hc : ∀ i, i < ws.length → w.cell? ⟨bw, ow + i, none⟩ = some (.int .i64 (ws.getD i 0))) :
    Calls Try.prog 24 #[.int .i64 T, .slice (some ⟨bw, ow, none⟩) ws.length cw] w fun e w' => ∃ v, e = .returned (.tuple #[v, .int .i64 0]) ∧
      w'.ownsRow w.heap.size 3 1 v ws.length (cellsI (partsI T S ws)) ∧ Below w.heap.size w w' := by
  obtain ⟨i0, hi0, hz0, hz1, hz2⟩ := info_parts Try.infoInt
  obtain ⟨hT0, hT1⟩ := inB_true.1 hT
  have HV := Lib.hid (rValid_yes w hT)
  have hpre : ∀ k, 0 ≤ sumI (ws.take k) ∧ sumI (ws.take k) ≤ 200000000 := fun k => by
    have h1 := sumI_nonneg (l := ws.take k) fun x hx => (hw x (List.mem_of_mem_take hx)).1
    have h2 := sumI_take_le (l := ws) (fun x hx => (hw x hx).1) k
    have h3 := sumI_le (l := ws) (c := 1000000) fun x hx => (hw x hx).2
    omega
  have HP := Lib.hid hpre
  have HPRE := Lib.hid (left_prefix hT0 hS0 (fun x hx => (hw x hx).1) hS)
  obtain ⟨n, hn⟩ : ∃ n, n = ws.length := ⟨_, rfl⟩
  have hn20 : n ≤ 200 := by omega
  have hn0 : 0 < n := by omega
  have hS1 : 1 ≤ S := by omega
  have h200 : decide ((200 : Int) < (n : Int)) = false := decide_eq_false (by omega)
  have hwd : ∀ i, i < n → 0 ≤ ws.getD i 0 ∧ ws.getD i 0 ≤ 1000000 := fun i h => by
    have h' : i < ws.length := by omega
    rw [getD_eq h']; exact hw _ (List.getElem_mem h')
  have HWD := Lib.hid hwd
  have hcc : ∀ i, i < n → w.cell? ⟨bw, ow + i, none⟩ = some (.int .i64 (ws.getD i 0)) := fun i h => hc i (by omega)
  have HC := Lib.hid hcc
  have HN := Lib.hid hn
  have HS := Lib.hid hS
  have HW := Lib.hid hw
  have hql : (qs T S ws).length = n := by simp [qs, hn]
  have hrl : (rests T S ws).length = n := by simp [rests, hn]
  have HQL := Lib.hid hql
  have HRL := Lib.hid hrl
  rw [← hn]
  clear hpre hwd hcc hc hn hS hw hlen hpos hT hql hrl
  go_enter Try.func24, Try.ntmps24
  go_wp2_with (go_at_call 17; refine (HV.out).mono ?_; rintro e w' ⟨rfl, rfl⟩)
  go_loop [23] (fun c => ∃ k : Nat, k ≤ n ∧ c = .int .i64 k) (fun c => n - (intOf c).toNat)
  case atStart => exact ⟨0, Nat.zero_le _, rfl⟩
  case round =>
    obtain ⟨k, hk, rfl⟩ := hrel
    by_cases hlt : k < n
    · obtain ⟨x, hx⟩ : ∃ x, x = ws.getD k 0 := ⟨_, rfl⟩
      have hcell := HC.out k hlt
      obtain ⟨hx0, hx1⟩ := HWD.out k hlt
      rw [← hx] at hcell hx0 hx1
      clear hx
      go_wp2
      go_round
      case rel => exact ⟨k + 1, by omega, by go_num⟩
      case measure => simp [intOf]; omega
    · obtain rfl : k = n := by omega
      go_wp2
      go_loop [6, 39] (fun s c => ∃ j : Nat, j ≤ k ∧ c = .int .i64 j ∧ s = .int .i64 (sumI (ws.take j))) (fun _ c => k - (intOf c).toNat)
      case atStart => exact ⟨0, Nat.zero_le _, rfl, by simp [sumI]⟩
      case round =>
        obtain ⟨j, hj, rfl, rfl⟩ := hrel
        by_cases hlt2 : j < k
        · obtain ⟨x, hx⟩ : ∃ x, x = ws.getD j 0 := ⟨_, rfl⟩
          have hcell := HC.out j hlt2
          obtain ⟨hx0, hx1⟩ := HWD.out j hlt2
          rw [← hx] at hcell hx0 hx1
          obtain ⟨hs0, hs1⟩ := HP.out j
          have HX := Lib.hid hx
          clear hx
          go_wp2
          go_round
          case rel =>
            refine ⟨j + 1, by omega, by go_num, ?_⟩
            rw [sumI_take_succ _ j (by have := HN.out; omega), ← HX.out]
          case measure => simp [intOf]; omega
        · obtain rfl : j = k := by omega
          have hfull : sumI (ws.take j) = S := by rw [List.take_of_length_le (by have := HN.out; omega)]; exact HS.out
          rw [hfull]
          clear hfull
          have hne : (S == 0) = false := by simp; omega
          go_wp2
          go_loopw [11, 12, 13, 52] (fun ov rv l c wr => ∃ k : Nat, k ≤ j ∧ c = .int .i64 k ∧ l = .int .i64 (T - sumI ((qs T S ws).take k)) ∧ wr.ownsRow w.heap.size 3 1 ov k (cellsI ((qs T S ws).take k)) ∧ wr.ownsRow w.heap.size 3 1 rv k (cellsI ((rests T S ws).take k)) ∧ DJ ov rv ∧ Below w.heap.size w wr) (fun _ _ _ c _ => j - (intOf c).toNat)
          case atStart => exact ⟨0, Nat.zero_le _, rfl, by simp [sumI], World.ownsRow_nil _ _ _ _, World.ownsRow_nil _ _ _ _, fun g hg => by simp [Value.ownBlock] at hg, Below.refl _ _⟩
          case round =>
            obtain ⟨k, hk, rfl, rfl, ho1, ho2, hdj, hbel⟩ := hrel
            by_cases hlt3 : k < j
            · obtain ⟨x, hx⟩ : ∃ x, x = ws.getD k 0 := ⟨_, rfl⟩
              have hw0 := HWD.out k hlt3
              have hcw : wr.cell? ⟨bw, ow + k, none⟩ = some (.int .i64 x) := by rw [hbel.cell (by exact hbw), hx]; exact HC.out k hlt3
              rw [← hx] at hw0
              obtain ⟨hx0, hx1⟩ := hw0
              have hp0 : 0 ≤ T * x := Int.mul_nonneg hT0 hx0
              have hp1 : T * x ≤ 1000000000000 * 1000000 := Int.mul_le_mul hT1 hx1 hx0 (by omega)
              have hq0 : 0 ≤ T * x / S := Int.ediv_nonneg hp0 (by omega)
              have hq1 : T * x / S ≤ T * x := Int.ediv_le_self _ hp0
              obtain ⟨hl0, hl1⟩ := HPRE.out k
              have hsz := hbel.size
              have HX := Lib.hid hx
              have HB := Lib.hid hbel
              have HDJ := Lib.hid hdj
              have HO1 := Lib.hid ho1
              have HO2 := Lib.hid ho2
              clear hx hbel hdj
              go_wp2_with (first | (at_builtin; refine wpList_append_moved _ rfl (.tmp 56) (.tmp 62) 22 rfl w.heap.size 3 i0 (.int .i64 0) 1 8 Try.underlying22 hi0 hz0 hz1 hz2 rfl (by decide) _ _ _ rfl (HO1.out.alloc _) ⟨wr.heap.size, 0, none⟩ 1 1 [.int .i64 (T * x / S)] rfl rfl (one_new _ _ _ _ rfl) (one_int _ _) (by decide) (by unfold maxLen; omega) (by omega) (by simp; omega) ?_; intro v1 w1 hn1 hg1 hm1; have ho2' := (HO2.out.alloc _).kept hg1 HDJ.out.kept; have hsz1 : w.heap.size ≤ w1.heap.size := Nat.le_trans hsz (Nat.le_trans (by simp) hg1.size)) | (at_builtin; refine wpList_append_moved _ rfl (.tmp 64) (.tmp 70) 22 rfl w.heap.size 3 i0 (.int .i64 0) 1 8 Try.underlying22 hi0 hz0 hz1 hz2 rfl (by decide) _ _ _ rfl (ho2'.alloc _) ⟨w1.heap.size, 0, none⟩ 1 1 [.int .i64 (T * x % S)] rfl rfl (one_new _ _ _ _ rfl) (one_int _ _) (by decide) (by unfold maxLen; omega) (by omega) (by simp; omega) ?_; intro v2 w2 hn2 hg2 hm2))
              go_roundw
              case rel =>
                have hx' := HX.out
                have hkl : k < ws.length := by have := HN.out; omega
                rw [cellsI_take _ k (by rw [HQL.out]; exact hlt3) _ (by rw [qs_get T S ws k hkl, ← hx'])] at hn1
                rw [cellsI_take _ k (by rw [HRL.out]; exact hlt3) _ (by rw [rests_get T S ws k hkl, ← hx'])] at hn2
                have d1 : DJ v1 u12 := HDJ.out.moved hm1 fun g hg => by have := (HO2.out.lt g hg).2; simp; omega
                have d2 : DJ v2 v1 := d1.symm.moved hm2 fun g hg => by have := (hn1.lt g hg).2; simp; omega
                refine ⟨k + 1, by omega, by go_num, ?_, (hn1.alloc _).kept hg2 d1.symm.kept, hn2, d2.symm, ?_⟩
                · rw [sumI_take_succ _ k (by rw [HQL.out]; exact hlt3), qs_get T S ws k hkl, ← hx']
                  go_num
                · exact (((HB.out.alloc hsz _).grown hg1 (by simp; omega) fun r hr => ownBlock_le HO1.out r hr).alloc hsz1 _).grown hg2 (by simp; omega) fun r hr => ownBlock_le HO2.out r hr
              case measure => simp [intOf]; omega
            · obtain rfl : k = j := by omega
              have hlo : T - sumI ((qs T S ws).take k) = leftOver T S ws := by
                rw [List.take_of_length_le (by rw [HQL.out]; exact Nat.le_refl _)]; rfl
              have hn1 := left_nonneg (T := T) hS0 HS.out
              have hn2 := left_le (T := T) hS0 HS.out
              obtain ⟨l, hl⟩ : ∃ l : Nat, leftOver T S ws = l := ⟨(leftOver T S ws).toNat, by omega⟩
              have hlk : l ≤ k := by have := HN.out; omega
              rw [List.take_of_length_le (by rw [HQL.out]; exact Nat.le_refl _)] at ho1
              rw [List.take_of_length_le (by rw [HRL.out]; exact Nat.le_refl _)] at ho2
              obtain ⟨g1, c1, rfl, hg1, hc1⟩ := owns_shape ho1 hn0
              obtain ⟨g2, c2, rfl, hg2, hc2⟩ := owns_shape ho2 hn0
              have hgg : g1 ≠ g2 := fun e => hdj g1 rfl (by rw [e]; rfl)
              have hgg' : g2 ≠ g1 := Ne.symm hgg
              obtain ⟨o, ho⟩ := order_exists (rs := rests T S ws) (by rw [HRL.out]; exact hn0)
              have hok : o.length = k := by rw [ho.length, HRL.out]
              have HO := Lib.hid ho
              have HOK := Lib.hid hok
              have HL := Lib.hid hl
              have HO1 : Hid (wr.ownsRow w.heap.size 3 1 (.slice (some ⟨g1, 0, none⟩) k c1) k (cellsI (bumped (qs T S ws) (o.take 0)))) := Lib.hid (by rw [List.take_zero, bumped_nil]; exact ho1)
              have HO2 : Hid (wr.ownsRow w.heap.size 3 1 (.slice (some ⟨g2, 0, none⟩) k c2) k (cellsI (marked (rests T S ws) (o.take 0)))) := Lib.hid (by rw [List.take_zero, marked_nil]; exact ho2)
              have HB := Lib.hid hbel
              rw [hlo, hl]
              clear hlo hn1 hn2 hl ho hok ho1 ho2 hdj hbel
              go_wp2
              go_loopw [13] (fun lv wr => ∃ t : Nat, t ≤ l ∧ lv = .int .i64 ((l - t : Nat) : Int) ∧ wr.ownsRow w.heap.size 3 1 (.slice (some ⟨g1, 0, none⟩) k c1) k (cellsI (bumped (qs T S ws) (o.take t))) ∧ wr.ownsRow w.heap.size 3 1 (.slice (some ⟨g2, 0, none⟩) k c2) k (cellsI (marked (rests T S ws) (o.take t))) ∧ Below w.heap.size w wr) (fun lv _ => (intOf lv).toNat)
              case atStart => exact ⟨0, Nat.zero_le _, rfl, HO1.out, HO2.out, HB.out⟩
              case round =>
                clear HO1 HO2 HB
                obtain ⟨t, ht, rfl, ho1, ho2, hbel⟩ := hrel
                obtain ⟨r, hr⟩ : ∃ r, r = l - t := ⟨_, rfl⟩
                have hr1 : r + t ≤ l := by omega
                have hr2 : l ≤ r + t := by omega
                rw [← hr]
                clear hr
                by_cases hpos2 : 0 < r
                · have hrz : (0 : Int) < (r : Int) := by omega
                  obtain ⟨wo, hwo⟩ : ∃ wo : World, wo = wr := ⟨_, rfl⟩
                  obtain ⟨ml, hml⟩ : ∃ ml, ml = marked (rests T S ws) (o.take t) := ⟨_, rfl⟩
                  have hmk : ml.length = k := by rw [hml, marked_length, HRL.out]
                  rw [← hml] at ho2
                  have hcells : ∀ i, i < k → wr.cell? ⟨g2, i, none⟩ = some (.int .i64 (ml.getD i 0)) := fun i hi => by rw [ho2.cellAt i (by omega), cellsI_get ml i (by omega)]
                  have HCE := Lib.hid hcells
                  have HML := Lib.hid hml
                  have HMK := Lib.hid hmk
                  have HO1 := Lib.hid ho1
                  have HO2 := Lib.hid ho2
                  have HB := Lib.hid hbel
                  subst hwo
                  clear hcells hml hmk ho1 ho2 hbel
                  go_wp2
                  go_loopw [16, 86] (fun bv c wr => ∃ i b q : Nat, i ≤ k ∧ c = .int .i64 i ∧ bv = .int .i64 b ∧ b < k ∧ Hid (Best ml i b) ∧ wr = wo.drewN q) (fun _ c _ => k - (intOf c).toNat)
                  case atStart => exact ⟨0, 0, 0, Nat.zero_le _, rfl, rfl, hn0, Lib.hid (best_zero _), rfl⟩
                  case round =>
                    obtain ⟨i, b, q, hi, rfl, rfl, hb, HBE, rfl⟩ := hrel
                    by_cases hlt5 : i < k
                    · obtain ⟨x, hx⟩ : ∃ x, x = ml.getD i 0 := ⟨_, rfl⟩
                      obtain ⟨y, hy⟩ : ∃ y, y = ml.getD b 0 := ⟨_, rfl⟩
                      have hcx := HCE.out i hlt5
                      have hcy := HCE.out b hb
                      rw [← hx] at hcx
                      rw [← hy] at hcy
                      have HX := Lib.hid hx
                      have HY := Lib.hid hy
                      have i0' : (0 : Int) ≤ (i : Int) := by omega
                      have i1 : (i : Int) < (k : Int) := by omega
                      have b0' : (0 : Int) ≤ (b : Int) := by omega
                      have b1 : (b : Int) < (k : Int) := by omega
                      clear hx hy
                      by_cases hxy : y < x
                      · have hd : decide (y < x) = true := decide_eq_true hxy
                        have HXY := Lib.hid hxy
                        go_wp2
                        go_quiet (fail)
                        go_wp2
                        go_roundw
                        case rel => exact ⟨i + 1, i, _, by omega, by go_num, rfl, hlt5, Lib.hid (best_yes HBE.out (by rw [← HX.out, ← HY.out]; exact HXY.out)), rfl⟩
                        case measure => simp [intOf]; omega
                      · have hd : decide (y < x) = false := decide_eq_false hxy
                        have HXY := Lib.hid hxy
                        go_wp2
                        go_quiet (fail)
                        go_wp2
                        go_roundw
                        case rel => exact ⟨i + 1, b, _, by omega, by go_num, rfl, hb, Lib.hid (best_no HBE.out (by rw [← HX.out, ← HY.out]; have := HXY.out; omega)), rfl⟩
                        case measure => simp [intOf]; omega
                    · obtain rfl : i = k := by omega
                      have htl : t < o.length := by have := HOK.out; omega
                      have hbi : b = o[t] := by
                        refine best_is HO.out (rests_nonneg hS0) htl (by rw [HRL.out]; exact hb) ?_
                        rw [HRL.out, ← HML.out]
                        exact HBE.out
                      obtain ⟨hb1, hb2⟩ := bumped_next (b := qs T S ws) HO.out.nodup t htl (by rw [HQL.out, ← hbi]; exact hb)
                      rw [← hbi] at hb1 hb2
                      have hm2 : (cellsI ml).set b (.int .i64 (-1)) = cellsI (marked (rests T S ws) (o.take (t + 1))) := by
                        rw [cellsI_set, HML.out, marked_set _ _ _ (by rw [HRL.out]; exact hb), List.take_succ_eq_append_getElem htl, ← hbi]
                      have hy := qs_get T S ws b (by have := HN.out; omega)
                      have hw0 := HWD.out b hb
                      obtain ⟨y, hy'⟩ : ∃ y, y = (qs T S ws).getD b 0 := ⟨_, rfl⟩
                      rw [← hy'] at hb1 hb2 hy
                      have hy0 : 0 ≤ y := by rw [hy]; exact Int.ediv_nonneg (Int.mul_nonneg hT0 hw0.1) (by omega)
                      have hy1 : y ≤ 1000000000000 * 1000000 := by
                        rw [hy]
                        exact Int.le_trans (Int.ediv_le_self _ (Int.mul_nonneg hT0 hw0.1)) (Int.mul_le_mul hT1 hw0.2 hw0.1 (by omega))
                      have hcell1 : wo.cell? ⟨g1, b, none⟩ = some (.int .i64 y) := by rw [HO1.out.cellAt b (by omega), hb1]
                      have hfr1 : wo.frozen? ⟨g1, b, none⟩ = false := HO1.out.frozenAt b
                      have hcell2 : wo.cell? ⟨g2, b, none⟩ = some (.int .i64 (ml.getD b 0)) := HCE.out b hb
                      have hfr2 : wo.frozen? ⟨g2, b, none⟩ = false := HO2.out.frozenAt b
                      have hst := HO1.out.stored b (.int .i64 (y + 1))
                      rw [hb2] at hst
                      obtain ⟨h1, k1⟩ := hst
                      have h2 := HO2.out.kept k1 (Or.inr (by simp [Value.ownBlock]; omega))
                      have hst2 := h2.stored b (.int .i64 (-1))
                      rw [hm2] at hst2
                      obtain ⟨h3, k3⟩ := hst2
                      have h4 := h1.kept k3 (Or.inr (by simp [Value.ownBlock]; omega))
                      have hb3 : Below w.heap.size w ((wo.setCell ⟨g1, b, none⟩ (.int .i64 (y + 1))).setCell ⟨g2, b, none⟩ (.int .i64 (-1))) := (HB.out.grown k1 HB.out.size (by simp; omega)).grown k3 (Nat.le_trans HB.out.size k1.size) (by simp; omega)
                      have H3 := Lib.hid h3
                      have H4 := Lib.hid h4
                      have HB3 := Lib.hid hb3
                      clear htl hbi hb1 hb2 hm2 hy hw0 hy' h1 k1 h2 h3 k3 h4 hb3
                      have hrm : (1 : Int) ≤ (r : Int) := by omega
                      go_wp2
                      go_roundw
                      case rel => exact ⟨t + 1, by omega, by go_num, H4.out, H3.out, below_drewN HB3.out _⟩
                      case measure => simp [intOf]; omega
                · have HO1 := Lib.hid ho1
                  have HB := Lib.hid hbel
                  have hfin : cellsI (bumped (qs T S ws) (o.take t)) = cellsI (partsI T S ws) := by
                    rw [← bumped_order HO.out, HL.out, show t = l by omega]; rfl
                  have HF := Lib.hid hfin
                  clear ho1 ho2 hbel hfin
                  go_wp2
                  go_ret2
                  exact ⟨_, rfl, by rw [← HF.out]; exact HO1.out, HB.out⟩

end Go.Proofs.Ytbndcjbnpgdpjaa
