/- The contract of Parts of the classification's reference: the numbers of a code, and nothing for a text that is none; for texts of up to 10^6 bytes. -/
import Derived.Test.YtionnohajnnfmaaGreatDoorRclM
namespace Go.Proofs.YtionnohajnnfmaaGreatDoor
open Go.RowKit Go.Lib Go.Proofs

theorem byte_int {a : UInt8} {n : Nat} (h : a.toNat = n) (hn : n < 256) : a = UInt8.ofNat n := by
  apply UInt8.toNat_inj.1
  rw [h]; simp; omega

theorem pow_le12 {g : Nat} (h : g ≤ 12) : 10 ^ g ≤ 1000000000000 := by
  have : 10 ^ g ≤ 10 ^ 12 := Nat.pow_le_pow_right (by omega) h
  simpa using this

set_option maxRecDepth 100000 in
set_option maxHeartbeats 8000000 in
theorem rclParts_any (s : ByteArray) (w : World) (hs : s.size ≤ 1000000) :
    Calls Tryz.prog 33 #[.string s] w (PartsPost w (partsN s)) := by
  obtain ⟨i0, hi, hz0, hz1, hz2⟩ := infoI_parts
  obtain ⟨P, hP⟩ : ∃ P, partsN s = P := ⟨_, rfl⟩
  rw [hP]
  have HP := Lib.hid hP
  clear hP
  have hnil : ∀ (W : World), PartsPost w [] (.returned (.slice none 0 0)) W ↔ Below w.heap.size w W := fun W => ⟨fun ⟨_, _, _, h⟩ => h, fun h => ⟨_, rfl, World.ownsRow_nil _ _ _ _, h⟩⟩
  have HNIL := Lib.hid hnil
  clear hnil
  by_cases h12 : 12 < s.size
  · have hp0 : P = [] := by rw [← HP.out]; exact partsN_long h12
    subst hp0
    have h12' : (12 : Int) < (s.size : Int) := by omega
    go_enter Tryz.func33, Tryz.ntmps33
    go_wp2
    go_ret
    exact (HNIL.out _).2 (Below.refl _ _)
  · have h12' : (s.size : Int) ≤ 12 := by omega
    have hlen : s.data.toList.length = s.size := (size_list s).symm
    have HLEN := Lib.hid hlen
    clear hlen
    go_enter Tryz.func33, Tryz.ntmps33
    go_wp2
    go_loopw [3, 4, 5, 6] (fun v a b i wr => ∃ (k g n : Nat) (out : List Nat), a = .int .i64 n ∧ b = .int .i64 g ∧ i = .int .i64 k ∧ k ≤ s.size + 1 ∧ Hid (wr.ownsRow w.heap.size 3 1 v out.length (cellsI (asInts out))) ∧ Hid (Below w.heap.size w wr) ∧
      Hid ((k ≤ s.size ∧ ReadTo s.data.toList k out n g) ∨ (k = s.size + 1 ∧ numsB ((wordsL 46 s.data.toList).map txt) = some out))) (fun _ _ _ i _ => s.size + 1 - (RowKit.intOf i).toNat)
    case atStart => exact ⟨0, 0, 0, [], rfl, rfl, rfl, by omega, Lib.hid (World.ownsRow_nil _ _ _ _), Lib.hid (Below.refl _ _), Lib.hid (Or.inl ⟨by omega, ReadTo.start _⟩)⟩
    case round =>
      obtain ⟨k, g, n, out, rfl, rfl, rfl, hk, HO, HB, HR⟩ := hrel
      obtain ⟨ao, cap, rfl, hcap, _, _⟩ := owned_ints HO.out
      rcases HR.out with ⟨hks, hrt⟩ | ⟨rfl, hnum⟩
      · obtain ⟨b1, b2, b3, b4⟩ := hrt.bounds
        have b5 := pow_le12 (g := g) (by omega)
        have hn12 : (n : Int) ≤ 1000000000000 := by omega
        have hkle : (k : Int) ≤ (s.size : Int) := by omega
        clear b4 b5
        have hget : ∀ j (h : j < s.size), s.data.toList[j]'(by rw [HLEN.out]; exact h) = s[j] := fun j h => rfl
        by_cases hend : k = s.size ∨ ∃ h : k < s.size, s[k] = 46
        · have hend2 : k = s.data.toList.length ∨ ∃ h : k < s.data.toList.length, s.data.toList[k] = 46 := by
            rcases hend with h | ⟨h, h2⟩
            · exact Or.inl (by rw [HLEN.out]; exact h)
            · exact Or.inr ⟨by rw [HLEN.out]; exact h, h2⟩
          by_cases hg0 : g = 0
          · have hp0 : P = [] := by rw [← HP.out]; exact hrt.badWord hend2 (Or.inl hg0)
            subst hp0
            subst hg0
            clear hrt HR hend2 hget
            rcases hend with rfl | ⟨hlt, hby⟩
            · go_wp2
              go_ret
              exact (HNIL.out _).2 HB.out
            · have hq : ((k : Int) == (s.size : Int)) = false := by rw [beq_eq_false_iff_ne]; omega
              have hb : ((s[k].toNat : Int) == 46) = true := by rw [hby]; rfl
              clear hby
              go_wp2
              go_ret
              exact (HNIL.out _).2 HB.out
          · have hg0' : ((g : Int) == 0) = false := by rw [beq_eq_false_iff_ne]; omega
            by_cases hg2 : 2 < g
            · have hp0 : P = [] := by rw [← HP.out]; exact hrt.badWord hend2 (Or.inr (Or.inl hg2))
              subst hp0
              have hg2' : (2 : Int) < (g : Int) := by omega
              clear hrt HR hend2 hget
              rcases hend with rfl | ⟨hlt, hby⟩
              · go_wp2
                go_ret
                exact (HNIL.out _).2 HB.out
              · have hq : ((k : Int) == (s.size : Int)) = false := by rw [beq_eq_false_iff_ne]; omega
                have hb : ((s[k].toNat : Int) == 46) = true := by rw [hby]; rfl
                clear hby
                go_wp2
                go_ret
                exact (HNIL.out _).2 HB.out
            · have hg2' : (g : Int) ≤ 2 := by omega
              obtain ⟨j, hj⟩ : ∃ j, j = k - g := ⟨_, rfl⟩
              have hjs : j < s.size := by omega
              have hjl : j < s.data.toList.length := by rw [HLEN.out]; exact hjs
              by_cases hz : s[j] = 48
              · have hp0 : P = [] := by rw [← HP.out]; exact hrt.badWord hend2 (Or.inr (Or.inr ⟨by rw [← hj]; exact hjl, by subst hj; exact hz⟩))
                subst hp0
                have hz' : ((s[j].toNat : Int) == 48) = true := by rw [hz]; rfl
                obtain rfl : k = j + g := by omega
                clear hrt HR hend2 hget hz hj
                have hj0 : (0 : Int) ≤ (j : Int) := by omega
                have hj1 : (j : Int) < (s.size : Int) := by omega
                rcases hend with hke | ⟨hlt, hby⟩
                · have hq : ((j : Int) + (g : Int) == (s.size : Int)) = true := by rw [beq_iff_eq]; omega
                  clear hke
                  go_wp2
                  go_ret
                  exact (HNIL.out _).2 HB.out
                · have hq : ((j : Int) + (g : Int) == (s.size : Int)) = false := by rw [beq_eq_false_iff_ne]; omega
                  have hb : ((s[j + g].toNat : Int) == 46) = true := by rw [hby]; rfl
                  clear hby
                  go_wp2
                  go_ret
                  exact (HNIL.out _).2 HB.out
              · have hz' : ((s[j].toNat : Int) == 48) = false := by
                  rw [beq_eq_false_iff_ne]
                  intro e
                  exact hz (UInt8.toNat_inj.1 (by have e48 : (48 : UInt8).toNat = 48 := rfl; omega))
                have hnew : Hid ((k + 1 ≤ s.size ∧ ReadTo s.data.toList (k + 1) (out ++ [n]) 0 0) ∨ (k + 1 = s.size + 1 ∧ numsB ((wordsL 46 s.data.toList).map txt) = some (out ++ [n]))) := by
                  refine Lib.hid ?_
                  rcases hend with rfl | ⟨hlt, hby⟩
                  · refine Or.inr ⟨rfl, ?_⟩
                    have h2 : ReadTo s.data.toList s.data.toList.length out n g := by rw [HLEN.out]; exact hrt
                    refine h2.last (by omega) (by omega) (by rw [HLEN.out]; omega) ?_
                    intro e
                    refine hz ?_
                    subst hj
                    rw [← hget _ hjs, ← e]
                    congr 1
                  · refine Or.inl ⟨by omega, ?_⟩
                    refine hrt.point (by rw [HLEN.out]; exact hlt) hby (by omega) (by omega) ?_
                    intro e
                    refine hz ?_
                    subst hj
                    exact e
                obtain rfl : k = j + g := by omega
                clear hrt HR hend2 hget hz hj
                have hj0 : (0 : Int) ≤ (j : Int) := by omega
                have hj1 : (j : Int) < (s.size : Int) := by omega
                have hbw := HB.out.size
                have hol : out.length ≤ 12 := by omega
                rcases hend with hke | ⟨hlt, hby⟩
                · have hq : ((j : Int) + (g : Int) == (s.size : Int)) = true := by rw [beq_iff_eq]; omega
                  clear hke
                  go_wp2_with (at_builtin; refine wpList_append_own _ rfl _ _ 22 rfl w.heap.size 3 i0 (.int .i64 0) 1 8 Tryz.underlying22 hi hz0 hz1 hz2 rfl (by decide) _ _ _ rfl (HO.out.alloc _) ⟨wr.heap.size, 0, none⟩ 1 1 [.int .i64 (n : Int)] rfl rfl (one_new _ _ _ _ rfl) (one_int _ _) (by unfold maxLen; omega) (by omega) (by simp; omega) ?_; intro v' w5 hown5 hgr5 _)
                  have hB5 : Below w.heap.size w w5 := ((HB.out.alloc HB.out.size _).grown hgr5 (by simp; omega) fun j e => ownBlock_le HO.out j e)
                  have HO5 := Lib.hid hown5
                  have HB5 := Lib.hid hB5
                  clear hown5 hB5 hgr5
                  go_roundw
                  case rel => exact ⟨j + g + 1, 0, 0, out ++ [n], rfl, rfl, by go_num, by omega, Lib.hid (by rw [asInts_snoc, ← cellsI_snoc, List.length_append]; exact HO5.out), HB5, hnew⟩
                  case measure => simp [RowKit.intOf]; omega
                · have hq : ((j : Int) + (g : Int) == (s.size : Int)) = false := by rw [beq_eq_false_iff_ne]; omega
                  have hb : ((s[j + g].toNat : Int) == 46) = true := by rw [hby]; rfl
                  clear hby
                  go_wp2_with (at_builtin; refine wpList_append_own _ rfl _ _ 22 rfl w.heap.size 3 i0 (.int .i64 0) 1 8 Tryz.underlying22 hi hz0 hz1 hz2 rfl (by decide) _ _ _ rfl (HO.out.alloc _) ⟨wr.heap.size, 0, none⟩ 1 1 [.int .i64 (n : Int)] rfl rfl (one_new _ _ _ _ rfl) (one_int _ _) (by unfold maxLen; omega) (by omega) (by simp; omega) ?_; intro v' w5 hown5 hgr5 _)
                  have hB5 : Below w.heap.size w w5 := ((HB.out.alloc HB.out.size _).grown hgr5 (by simp; omega) fun j e => ownBlock_le HO.out j e)
                  have HO5 := Lib.hid hown5
                  have HB5 := Lib.hid hB5
                  clear hown5 hB5 hgr5
                  go_roundw
                  case rel => exact ⟨j + g + 1, 0, 0, out ++ [n], rfl, rfl, by go_num, by omega, Lib.hid (by rw [asInts_snoc, ← cellsI_snoc, List.length_append]; exact HO5.out), HB5, hnew⟩
                  case measure => simp [RowKit.intOf]; omega
        · have hlt : k < s.size := by
            rcases Nat.lt_or_ge k s.size with h | h
            · exact h
            · exact absurd (Or.inl (by omega)) hend
          have hne : s[k] ≠ 46 := fun e => hend (Or.inr ⟨hlt, e⟩)
          have hkl : k < s.data.toList.length := by rw [HLEN.out]; exact hlt
          have hq : ((k : Int) == (s.size : Int)) = false := by rw [beq_eq_false_iff_ne]; omega
          have hb : ((s[k].toNat : Int) == 46) = false := by
            rw [beq_eq_false_iff_ne]
            intro e
            exact hne (UInt8.toNat_inj.1 (by have e46 : (46 : UInt8).toNat = 46 := rfl; omega))
          by_cases hd : 48 ≤ s[k].toNat ∧ s[k].toNat ≤ 57
          · have hstep := hrt.digit hkl (decide_eq_true hd)
            have HST := Lib.hid hstep
            have hby := hget k hlt
            have hd1 : (48 : Int) ≤ (s[k].toNat : Int) := by omega
            have hd2 : (s[k].toNat : Int) ≤ 57 := by omega
            clear hrt HR hget hend hne hstep hby
            go_wp2
            go_roundw
            case rel =>
              refine ⟨k + 1, g + 1, 10 * n + (s[k].toNat - 48), out, ?_, by go_num, by go_num, by omega, HO, HB, Lib.hid (Or.inl ⟨by omega, HST.out⟩)⟩
              congr 1
              omega
            case measure => simp [RowKit.intOf]; omega
          · have hp0 : P = [] := by rw [← HP.out]; exact hrt.badByte hkl hne (decide_eq_false hd)
            subst hp0
            clear hrt HR hget hend hne
            by_cases h48 : s[k].toNat < 48
            · have h48' : (s[k].toNat : Int) < 48 := by omega
              go_wp2
              go_ret
              exact (HNIL.out _).2 HB.out
            · have h48' : (48 : Int) ≤ (s[k].toNat : Int) := by omega
              have h57' : (57 : Int) < (s[k].toNat : Int) := by omega
              go_wp2
              go_ret
              exact (HNIL.out _).2 HB.out
      · have hpo := partsN_of hnum
        rw [HP.out] at hpo
        have hge : (s.size : Int) < (s.size : Int) + 1 := by omega
        by_cases h4 : out.length ≤ 4
        · rw [if_pos h4] at hpo
          have HPO := Lib.hid hpo
          have h4' : (out.length : Int) ≤ 4 := by omega
          clear hnum hpo HR
          go_wp2
          go_ret
          exact ⟨_, rfl, by rw [HPO.out]; exact HO.out, HB.out⟩
        · rw [if_neg h4] at hpo
          have HPO := Lib.hid hpo
          have h4' : (4 : Int) < (out.length : Int) := by omega
          clear hnum hpo HR
          go_wp2
          go_ret
          rw [HPO.out]
          exact (HNIL.out _).2 HB.out

end Go.Proofs.YtionnohajnnfmaaGreatDoor
