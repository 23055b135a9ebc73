/- The contract of Parse of calendar's reference: the day with a text, and ErrSyntax for any other text; as for calendar.Parse. -/
import Derived.Test.YtgnjboebnobjcaaDoorCParse
namespace Go.Proofs.YtgnjboebnobjcaaDoor
open Go.RowKit Go.Lib Go.Proofs

theorem lead_step (l : List UInt8) (k : Nat) (hk : k < l.length) (f m : Nat) : leadGo (l.drop k) (f + 1) m = if digitB l[k] = true then leadGo (l.drop (k + 1)) f (10 * m + (l[k].toNat - 48)) else m := by
  rw [List.drop_eq_getElem_cons hk]
  rfl
theorem lead_end (l : List UInt8) (k : Nat) (hk : l.length ≤ k) (f m : Nat) : leadGo (l.drop k) f m = m := by
  rw [List.drop_eq_nil_of_le hk]
  unfold leadGo
  rfl
theorem lead_zero (l : List UInt8) (m : Nat) : leadGo l 0 m = m := by
  unfold leadGo
  split
  · rename_i h; cases h
  · rfl

theorem pow_small {k : Nat} (h : k < 4) : 10 ^ k ≤ 1000 := by
  have : k = 0 ∨ k = 1 ∨ k = 2 ∨ k = 3 := by omega
  rcases this with rfl | rfl | rfl | rfl <;> decide

set_option maxRecDepth 100000 in
set_option maxHeartbeats 4000000 in
theorem rcParse_any (s : ByteArray) (p q : Int) (h : ParseIs s p q) (w : World) (hL : Lay w) (hs : s.size ≤ 1000000) :
    Calls Tryd.prog 32 #[.string s] w fun e w' => e = .returned (.tuple #[.int .i64 p, .int .i64 q]) ∧ Below w.heap.size w w' := by
  obtain ⟨N, hN⟩ : ∃ N, N = leadGo s.data.toList 4 0 := ⟨_, rfl⟩
  have hlen : s.data.toList.length = s.size := (size_eq s).symm
  have HLEN := Lib.hid hlen
  have HN := Lib.hid hN
  have HL := Lib.hid hL
  have H := Lib.hid h
  clear hN hL h hlen
  go_enter Tryd.func32, Tryd.ntmps32
  go_wp2_with fail
  go_loop [4, 5] (fun n i => ∃ k m : Nat, i = .int .i64 k ∧ n = .int .i64 m ∧ k ≤ 4 ∧ k ≤ s.size ∧ Hid (leadGo (s.data.toList.drop k) (4 - k) m = N) ∧ Hid (m < 10 ^ k)) (fun _ i => 4 - (RowKit.intOf i).toNat)
  case atStart => exact ⟨0, 0, rfl, rfl, by omega, by omega, Lib.hid (by rw [HN.out]; rfl), Lib.hid (by decide)⟩
  case round =>
    obtain ⟨k, m, rfl, rfl, hk4, hks, HG, HM⟩ := hrel
    have hcase : (∃ h : k < s.size, k < 4 ∧ 48 ≤ (s[k].toNat : Int) ∧ (s[k].toNat : Int) ≤ 57) ∨ (4 ≤ k ∧ k < s.size ∧ m = N) ∨ (s.size ≤ k ∧ m = N) ∨ (∃ h : k < s.size, k < 4 ∧ (s[k].toNat : Int) < 48 ∧ m = N) ∨ (∃ h : k < s.size, k < 4 ∧ 48 ≤ (s[k].toNat : Int) ∧ 57 < (s[k].toNat : Int) ∧ m = N) := by
      have hg := HG.out
      by_cases h4 : 4 ≤ k
      · have hm : m = N := by rw [show 4 - k = 0 by omega, lead_zero] at hg; exact hg
        by_cases hsz : k < s.size
        · exact Or.inr (Or.inl ⟨h4, hsz, hm⟩)
        · exact Or.inr (Or.inr (Or.inl ⟨by omega, hm⟩))
      · by_cases hsz : k < s.size
        · have hl : k < s.data.toList.length := by rw [HLEN.out]; exact hsz
          rw [show 4 - k = (3 - k) + 1 by omega, lead_step _ k hl] at hg
          have hc : s.data.toList[k] = s[k] := rfl
          by_cases h1 : 48 ≤ (s[k].toNat : Int)
          · by_cases h2 : (s[k].toNat : Int) ≤ 57
            · exact Or.inl ⟨hsz, by omega, h1, h2⟩
            · refine Or.inr (Or.inr (Or.inr (Or.inr ⟨hsz, by omega, h1, by omega, ?_⟩)))
              rw [if_neg (by rw [hc]; unfold digitB; simp; omega)] at hg; exact hg
          · refine Or.inr (Or.inr (Or.inr (Or.inl ⟨hsz, by omega, by omega, ?_⟩)))
            rw [if_neg (by rw [hc]; unfold digitB; simp; omega)] at hg; exact hg
        · refine Or.inr (Or.inr (Or.inl ⟨by omega, ?_⟩))
          rw [lead_end _ _ (by rw [HLEN.out]; omega)] at hg; exact hg
    rcases hcase with ⟨hsz, hlt4, h1, h2⟩ | hex
    · have hm1 : m ≤ 1000 := by have := HM.out; have := pow_small hlt4; omega
      go_wp2_with fail
      go_round
      case rel =>
        refine ⟨k + 1, 10 * m + (s[k].toNat - 48), by go_num, ?_, by omega, by omega, Lib.hid ?_, Lib.hid ?_⟩
        · have e : (s[k].toNat : Int) - 48 = ((s[k].toNat - 48 : Nat) : Int) := by omega
          first | go_num | (congr 1; omega) | (simp; omega)
        · have hg := HG.out
          have hl : k < s.data.toList.length := by rw [HLEN.out]; exact hsz
          rw [show 4 - k = (4 - (k + 1)) + 1 by omega, lead_step _ k hl] at hg
          have hc : s.data.toList[k] = s[k] := rfl
          rw [if_pos (by rw [hc]; unfold digitB; simp; omega), hc] at hg
          exact hg
        · have := HM.out
          rw [Nat.pow_succ]
          omega
      case measure => simp [RowKit.intOf]; omega
    · have hmN : m = N := by
        rcases hex with ⟨_, _, h⟩ | ⟨_, h⟩ | ⟨_, _, _, h⟩ | ⟨_, _, _, _, h⟩ <;> exact h
      have hm4 : m < 10000 := by
        have h1 := HM.out
        have h2 : 10 ^ k ≤ 10 ^ 4 := Nat.pow_le_pow_right (by omega) hk4
        omega
      have HMN := Lib.hid hmN
      clear hmN
      have HEX := Lib.hid hex
      clear hex
      rcases HEX.out with ⟨hx1, hx2, _⟩ | ⟨hx1, _⟩ | ⟨hx1, hx2, hx3, _⟩ | ⟨hx1, hx2, hx3, hx4, _⟩
      all_goals
        go_wp2_with fail
        go_loopw [6] (fun x wr => ∃ d : Nat, x = .int .i64 d ∧ 360 * m ≤ d ∧ d ≤ 360 * m + 360 ∧ Below w.heap.size w wr ∧ Hid (∀ e, 360 * m ≤ e → e < d → e ≤ 36000 → dayText e ≠ s)) (fun x _ => 360 * m + 360 - (RowKit.intOf x).toNat)
        case atStart => exact ⟨360 * m, by first | rfl | go_num, by omega, by omega, Below.refl _ _, Lib.hid fun e h1 h2 => by omega⟩
        case round =>
          obtain ⟨d, rfl, hd0, hd1, hbel, HD⟩ := hrel
          by_cases hv : d ≤ 36000
          · have HV := Lib.hid (dayB_true.2 ⟨by omega, by omega⟩ : dayB (d : Int) = true)
            by_cases hlt : d < 360 * m + 360
            · have HT := Lib.hid (rcText_day d wr hv ((HL.out.below hbel (Nat.le_refl _)).itoa d hv))
              by_cases he : dayText d = s
              · obtain ⟨rfl, rfl⟩ := H.out.hit hv he
                have heq := strEq_true he
                have HE := Lib.hid he
                clear he
                go_wp2_with fail
                refine (rcValid_yes _ HV.out).mono ?_
                rintro e w' ⟨rfl, rfl⟩
                go_wp2_with fail
                refine (HT.out).mono ?_
                rintro e w2 ⟨rfl, hb2⟩
                go_wp2_with fail
                go_ret2
                exact ⟨rfl, hbel.trans (hb2.mono hbel.size)⟩
              · have heq := strEq_false he
                have HE := Lib.hid he
                clear he
                go_wp2_with fail
                refine (rcValid_yes _ HV.out).mono ?_
                rintro e w' ⟨rfl, rfl⟩
                go_wp2_with fail
                refine (HT.out).mono ?_
                rintro e w2 ⟨rfl, hb2⟩
                go_wp2_with fail
                go_roundw
                case rel =>
                  refine ⟨d + 1, by go_num, by omega, by omega, hbel.trans (hb2.mono hbel.size), Lib.hid fun e h1 h2 h3 => ?_⟩
                  by_cases hed : e = d
                  · rw [hed]; exact HE.out
                  · exact HD.out e h1 (by omega) h3
                case measure => simp [RowKit.intOf]; omega
            · have hpq : p = 0 ∧ q = 4 := by
                rcases H.out with ⟨d', g1, g2, _⟩ | ⟨_, g1, g2⟩
                · have hld := lead_day d' g1
                  rw [g2, ← HN.out, ← HMN.out] at hld
                  exact absurd g2 (HD.out d' (by omega) (by omega) g1)
                · exact ⟨g1, g2⟩
              obtain ⟨rfl, rfl⟩ := hpq
              go_wp2_with fail
              refine (rcValid_yes _ HV.out).mono ?_
              rintro e w' ⟨rfl, rfl⟩
              go_wp2_with fail
              go_ret2
              exact ⟨rfl, hbel⟩
          · have HV := Lib.hid (dayB_false.2 (by omega) : dayB (d : Int) = false)
            have hpq : p = 0 ∧ q = 4 := by
              rcases H.out with ⟨d', g1, g2, _⟩ | ⟨_, g1, g2⟩
              · have hld := lead_day d' g1
                rw [g2, ← HN.out, ← HMN.out] at hld
                exact absurd g2 (HD.out d' (by omega) (by omega) g1)
              · exact ⟨g1, g2⟩
            obtain ⟨rfl, rfl⟩ := hpq
            go_wp2_with fail
            refine (rcValid_no _ HV.out).mono ?_
            rintro e w' ⟨rfl, rfl⟩
            go_wp2_with fail
            go_ret2
            exact ⟨rfl, hbel⟩

end Go.Proofs.YtgnjboebnobjcaaDoor
