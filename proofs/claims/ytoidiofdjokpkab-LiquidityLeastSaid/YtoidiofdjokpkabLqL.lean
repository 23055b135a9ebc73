/- The walk of LiquidityLeast: what is decided is the least that is enough, and nothing is enough where nothing is decided, over all lots; for every tape. -/
import Derived.Test.YtoidiofdjokpkabLqD
namespace Go.Proofs.Ytoidiofdjokpkab
open Go.RowKit Go.Lib Go.Proofs

set_option maxHeartbeats 8000000 in
theorem lqleast_any (v : Value) (n : Nat) (w : World) (hi : IntsAt w v n w.heap.size) (hn : n ≤ 9223372036854775807) :
    Calls Try.prog 3 #[v] w fun e w' => e = .returned (.bool true) ∧ Below w.heap.size w w' := by
  have HNEW := Lib.hid (sNew_any v n w hi hn)
  have HSN := Lib.hid sane30_any
  clear hi hn
  go_enter Try.func3, Try.ntmps3
  go_wp2_with fail
  refine (HNEW.out).mono ?_
  rintro e w1 ⟨rfl, t1, b1⟩
  have HS := Lib.hid (sBand_any w.heap.size w1 t1)
  have B1 := Lib.hid b1
  clear t1 b1 HNEW
  go_wp2_with fail
  refine (HS.out).mono ?_
  rintro e w2 ⟨b, rfl, hok, hlo, hhi, hlt, hmr, hmp, hl4, t2, g2⟩
  have HX := Lib.hid (show BInv w w2.heap.size b (w2.alloc (.cells b.cells.toArray 26)) from ⟨heap_alloc_new w2 _, (B1.out.grown g2 B1.out.size (by simp)).alloc (B1.out.grown g2 B1.out.size (by simp)).size _⟩)
  have HRG := Lib.hid (range_in ((si_start t2).alloc (.cells b.cells.toArray 26)) (-300) 300 (by omega) (by omega) (by omega))
  have hbne : w2.heap.size ≠ w.heap.size := by have := t2.lt; omega
  have hwl : w.heap.size < w2.heap.size := t2.lt
  have HNE := Lib.hid hbne
  have HWL := Lib.hid hwl
  have HOK := Lib.hid hok
  have k0 := hok.lo0
  have k1 := hok.le
  have k2 := hok.lot0
  have k3 := hok.mr0
  have k4 := hok.mp0
  have HD := Lib.hid (fun a (h0 : -1000000000000000 ≤ a) (h1 : a ≤ 1000000000000000) W => lqDecide_any hok a h0 h1 W)
  clear t2 g2 HS B1 hbne hwl hok
  obtain ⟨lo, hi, lt, mr, mp⟩ := b
  simp only [Bnd.cells] at HX HRG HD hlo hhi hlt hmr hmp hl4 k0 k1 k2 k3 k4 ⊢
  go_wp2_with fail
  with_reducible refine (HRG.out).mono ?_
  rintro e w3 ⟨a, rfl, a0, a1, hi3, hg3⟩
  have HX3 : Hid (BInv w w2.heap.size ⟨lo, hi, lt, mr, mp⟩ w3) := Lib.hid ⟨obj_turn HX.out.box hg3 HNE.out, HX.out.old.grown hg3 HX.out.old.size (by simp)⟩
  have hc3 := HX3.out.box
  have v0 := obj_cell hc3 0
  have v1 := obj_cell hc3 1
  have v2 := obj_cell hc3 2
  have v3 := obj_cell hc3 3
  have v4 := obj_cell hc3 4
  simp [Bnd.cells] at v0 v1 v2 v3 v4
  have HDA := Lib.hid (fun W => HD.out a (by omega) (by omega) W)
  clear hc3 hi3 hg3 HX HRG
  go_wp2_with fail
  with_reducible refine (HDA.out _).mono ?_
  rintro e w4 ⟨rfl, b4⟩
  have HX4 := Lib.hid (HX3.out.below b4)
  have hc4 := HX4.out.box
  clear v0 v1 v2 v3 v4
  have v0 := obj_cell hc4 0
  have v1 := obj_cell hc4 1
  have v2 := obj_cell hc4 2
  have v3 := obj_cell hc4 3
  have v4 := obj_cell hc4 4
  simp [Bnd.cells] at v0 v1 v2 v3 v4
  clear b4 HX3 HDA
  clear hc4
  have HF1 := Lib.hid (fun m (m0 : 0 ≤ m) (hm : m % lt = 0) (hw : works ⟨lo, hi, lt, mr, mp⟩ a m) => works_least HOK.out m0 hm hw)
  have HF2 := Lib.hid (fun (hk : okB ⟨lo, hi, lt, mr, mp⟩ a = true) => ok_works hk)
  have hz : (raiseI ⟨lo, hi, lt, mr, mp⟩ a = 0 ∨ placeI ⟨lo, hi, lt, mr, mp⟩ a = 0) ∧ 0 ≤ raiseI ⟨lo, hi, lt, mr, mp⟩ a ∧ 0 ≤ placeI ⟨lo, hi, lt, mr, mp⟩ a := ⟨(raise_place HOK.out a).2.2.2.2, (raise_place HOK.out a).1, (raise_place HOK.out a).2.1⟩
  have HRT := Lib.hid (show okB ⟨lo, hi, lt, mr, mp⟩ a = true → decR ⟨lo, hi, lt, mr, mp⟩ a = raiseI ⟨lo, hi, lt, mr, mp⟩ a ∧ decP ⟨lo, hi, lt, mr, mp⟩ a = placeI ⟨lo, hi, lt, mr, mp⟩ a from fun h => by unfold decR decP; rw [if_pos h, if_pos h]; exact ⟨rfl, rfl⟩)
  have HRF := Lib.hid (show okB ⟨lo, hi, lt, mr, mp⟩ a = false → decR ⟨lo, hi, lt, mr, mp⟩ a = 0 ∧ decP ⟨lo, hi, lt, mr, mp⟩ a = 0 from fun h => by unfold decR decP; rw [h]; exact ⟨rfl, rfl⟩)
  generalize decR ⟨lo, hi, lt, mr, mp⟩ a = R at *
  generalize decP ⟨lo, hi, lt, mr, mp⟩ a = P at *
  unfold works at HF1 HF2
  simp only at HF1 HF2
  generalize raiseI ⟨lo, hi, lt, mr, mp⟩ a = r at *
  generalize placeI ⟨lo, hi, lt, mr, mp⟩ a = p at *
  generalize okB ⟨lo, hi, lt, mr, mp⟩ a = k at *
  have hsm : k = true → r + p ≤ 1000 := fun hk => by have := (HF2.out hk).1; omega
  have HSM := Lib.hid hsm
  clear hsm HD
  have hr0 := hz.2.1
  have hp0 := hz.2.2
  have hz0 := hz.1
  clear hz
  have hlot4 : Hid (lt = 1 ∨ lt = 4 ∨ lt = 10 ∨ lt = 25) := Lib.hid hl4
  clear hl4
  go_wp2
  go_loopw [10, 9] (fun nv bv wr => ∃ m be : Int, nv = .int .i64 m ∧ bv = .int .i64 be ∧ Hid (BInv w w2.heap.size ⟨lo, hi, lt, mr, mp⟩ wr) ∧ 0 ≤ m ∧ m ≤ 1025 ∧ Hid (m % lt = 0 ∧ ((be = -1 ∧ (k = true → m ≤ r + p)) ∨ (be = r + p ∧ k = true)))) (fun nv _ _ => (1100 - RowKit.intOf nv).toNat)
  case atStart => exact ⟨0, -1, rfl, rfl, HX4, by omega, by omega, Lib.hid ⟨by simp, Or.inl ⟨rfl, fun hk => by omega⟩⟩⟩
  case round =>
    obtain ⟨m, be, rfl, rfl, HXR, m0, m1, HI⟩ := hrel
    have hcr := HXR.out.box
    clear v0 v1 v2 v3 v4
    have v0 := obj_cell hcr 0
    have v1 := obj_cell hcr 1
    have v2 := obj_cell hcr 2
    have v3 := obj_cell hcr 3
    have v4 := obj_cell hcr 4
    simp [Bnd.cells] at v0 v1 v2 v3 v4
    clear hcr
    rcases HI.out with ⟨hm, ⟨rfl, hle⟩ | ⟨rfl, hk⟩⟩
    · by_cases hlt : m ≤ 1000
      · have HM := Lib.hid hm
        have HLE := Lib.hid hle
        have hd1 : Hid (((m ≤ mr ∧ lo ≤ a + m ∧ a + m ≤ hi) ∨ (m ≤ mp ∧ lo ≤ a - m ∧ a - m ≤ hi)) → k = true ∧ m = r + p) := Lib.hid fun hw => by
          obtain ⟨hk, hl⟩ := HF1.out m m0 hm hw
          exact ⟨hk, by have := hle hk; omega⟩
        have hd2 : Hid (¬ ((m ≤ mr ∧ lo ≤ a + m ∧ a + m ≤ hi) ∨ (m ≤ mp ∧ lo ≤ a - m ∧ a - m ≤ hi)) → k = true → m + lt ≤ r + p) := Lib.hid fun hw hk => by
          have h1 := hle hk
          obtain ⟨h2, h3, _, _⟩ := HF2.out hk
          have hne : m ≠ r + p := fun e => hw (by rw [e]; exact h2)
          exact mult_gap k2 hm h3 (by omega)
        have hd3 : Hid ((m + lt) % lt = 0) := Lib.hid (by rw [Int.add_emod_right]; exact hm)
        clear hm hle HI HF1 HF2
        by_cases c0 : m ≤ mr
        · by_cases c1 : lo ≤ a + m
          · by_cases c2 : a + m ≤ hi
            · go_wp2
              go_roundw
              case rel => exact ⟨m + lt, m, by first | rfl | go_num, by first | rfl | go_num, HXR, by omega, by omega, Lib.hid ⟨hd3.out, Or.inr ⟨(hd1.out (by omega)).2, (hd1.out (by omega)).1⟩⟩⟩
              case measure => simp [RowKit.intOf]; omega
            · have e2 : hi < a + m := by omega
              by_cases c3 : m ≤ mp
              · by_cases c4 : lo ≤ a - m
                · by_cases c5 : a - m ≤ hi
                  · go_wp2
                    go_roundw
                    case rel => exact ⟨m + lt, m, by first | rfl | go_num, by first | rfl | go_num, HXR, by omega, by omega, Lib.hid ⟨hd3.out, Or.inr ⟨(hd1.out (by omega)).2, (hd1.out (by omega)).1⟩⟩⟩
                    case measure => simp [RowKit.intOf]; omega
                  · have e5 : hi < a - m := by omega
                    go_wp2
                    go_roundw
                    case rel => exact ⟨m + lt, -1, by first | rfl | go_num, by first | rfl | go_num, HXR, by omega, by omega, Lib.hid ⟨hd3.out, Or.inl ⟨rfl, hd2.out (by omega)⟩⟩⟩
                    case measure => simp [RowKit.intOf]; omega
                · have e4 : a - m < lo := by omega
                  go_wp2
                  go_roundw
                  case rel => exact ⟨m + lt, -1, by first | rfl | go_num, by first | rfl | go_num, HXR, by omega, by omega, Lib.hid ⟨hd3.out, Or.inl ⟨rfl, hd2.out (by omega)⟩⟩⟩
                  case measure => simp [RowKit.intOf]; omega
              · have e3 : mp < m := by omega
                go_wp2
                go_roundw
                case rel => exact ⟨m + lt, -1, by first | rfl | go_num, by first | rfl | go_num, HXR, by omega, by omega, Lib.hid ⟨hd3.out, Or.inl ⟨rfl, hd2.out (by omega)⟩⟩⟩
                case measure => simp [RowKit.intOf]; omega
          · have e1 : a + m < lo := by omega
            by_cases c3 : m ≤ mp
            · by_cases c4 : lo ≤ a - m
              · exfalso; omega
              · have e4 : a - m < lo := by omega
                go_wp2
                go_roundw
                case rel => exact ⟨m + lt, -1, by first | rfl | go_num, by first | rfl | go_num, HXR, by omega, by omega, Lib.hid ⟨hd3.out, Or.inl ⟨rfl, hd2.out (by omega)⟩⟩⟩
                case measure => simp [RowKit.intOf]; omega
            · have e3 : mp < m := by omega
              go_wp2
              go_roundw
              case rel => exact ⟨m + lt, -1, by first | rfl | go_num, by first | rfl | go_num, HXR, by omega, by omega, Lib.hid ⟨hd3.out, Or.inl ⟨rfl, hd2.out (by omega)⟩⟩⟩
              case measure => simp [RowKit.intOf]; omega
        · have e0 : mr < m := by omega
          by_cases c3 : m ≤ mp
          · by_cases c4 : lo ≤ a - m
            · by_cases c5 : a - m ≤ hi
              · go_wp2
                go_roundw
                case rel => exact ⟨m + lt, m, by first | rfl | go_num, by first | rfl | go_num, HXR, by omega, by omega, Lib.hid ⟨hd3.out, Or.inr ⟨(hd1.out (by omega)).2, (hd1.out (by omega)).1⟩⟩⟩
                case measure => simp [RowKit.intOf]; omega
              · have e5 : hi < a - m := by omega
                go_wp2
                go_roundw
                case rel => exact ⟨m + lt, -1, by first | rfl | go_num, by first | rfl | go_num, HXR, by omega, by omega, Lib.hid ⟨hd3.out, Or.inl ⟨rfl, hd2.out (by omega)⟩⟩⟩
                case measure => simp [RowKit.intOf]; omega
            · have e4 : a - m < lo := by omega
              go_wp2
              go_roundw
              case rel => exact ⟨m + lt, -1, by first | rfl | go_num, by first | rfl | go_num, HXR, by omega, by omega, Lib.hid ⟨hd3.out, Or.inl ⟨rfl, hd2.out (by omega)⟩⟩⟩
              case measure => simp [RowKit.intOf]; omega
          · have e3 : mp < m := by omega
            go_wp2
            go_roundw
            case rel => exact ⟨m + lt, -1, by first | rfl | go_num, by first | rfl | go_num, HXR, by omega, by omega, Lib.hid ⟨hd3.out, Or.inl ⟨rfl, hd2.out (by omega)⟩⟩⟩
            case measure => simp [RowKit.intOf]; omega
      · have hkf : k = false := by
          cases k with
          | false => rfl
          | true => have := hle rfl; have := HSM.out rfl; omega
        subst hkf
        obtain ⟨hR0, hP0⟩ := HRF.out rfl
        subst hR0 hP0
        clear hm hle HI HF1 HF2 hlot4 HRT HRF
        go_wp2_with (go_at_call 11; refine (HSN.out _).mono ?_; rintro e w6 ⟨rfl, b6⟩)
        go_ret
        exact ⟨rfl, (HXR.out.below b6).old⟩
    · subst hk
      obtain ⟨hR0, hP0⟩ := HRT.out rfl
      subst hR0 hP0
      clear HRT HRF
      have hnn : ¬ R + P < 0 := by omega
      have hsm := HSM.out rfl
      clear hm HI HF1 HF2 HSM hlot4
      by_cases hml : m ≤ 1000
      · rcases hz0 with rfl | rfl
        · go_wp2_with (go_at_call 11; refine (HSN.out _).mono ?_; rintro e w6 ⟨rfl, b6⟩)
          go_ret
          exact ⟨rfl, (HXR.out.below b6).old⟩
        · by_cases hr00 : R = 0
          · subst hr00
            go_wp2_with (go_at_call 11; refine (HSN.out _).mono ?_; rintro e w6 ⟨rfl, b6⟩)
            go_ret
            exact ⟨rfl, (HXR.out.below b6).old⟩
          · have hrf : (R == 0) = false := by rw [beq_eq_false_iff_ne]; exact hr00
            go_wp2_with (go_at_call 11; refine (HSN.out _).mono ?_; rintro e w6 ⟨rfl, b6⟩)
            go_ret
            exact ⟨rfl, (HXR.out.below b6).old⟩
      · rcases hz0 with rfl | rfl
        · go_wp2_with (go_at_call 11; refine (HSN.out _).mono ?_; rintro e w6 ⟨rfl, b6⟩)
          go_ret
          exact ⟨rfl, (HXR.out.below b6).old⟩
        · by_cases hr00 : R = 0
          · subst hr00
            go_wp2_with (go_at_call 11; refine (HSN.out _).mono ?_; rintro e w6 ⟨rfl, b6⟩)
            go_ret
            exact ⟨rfl, (HXR.out.below b6).old⟩
          · have hrf : (R == 0) = false := by rw [beq_eq_false_iff_ne]; exact hr00
            go_wp2_with (go_at_call 11; refine (HSN.out _).mono ?_; rintro e w6 ⟨rfl, b6⟩)
            go_ret
            exact ⟨rfl, (HXR.out.below b6).old⟩

end Go.Proofs.Ytoidiofdjokpkab
