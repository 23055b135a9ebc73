/- The contract of classification.isName: from 1 to 40 bytes from 32 to 126, no blank at either end; for texts of up to 10^6 bytes. -/
import Derived.Test.YtionnohajnnfmaaGreatDoorClTree
import Derived.Laws.RangeString
import Derived.Laws.RangeAny
namespace Go.Proofs.YtionnohajnnfmaaGreatDoor
open Go.RowKit Go.Lib Go.Proofs

/-- A byte that may stand in a name. -/
def plainC (c : UInt8) : Bool := decide (32 ≤ c.toNat ∧ c.toNat ≤ 126)

/-- A text is a name. -/
def nameB (s : ByteArray) : Bool := inB s.size 1 40 && (!hasPrefix s.data.toList [32] && (!hasSuffix s.data.toList [32] && s.data.toList.all plainC))

theorem all_false {l : List UInt8} {i : Nat} (hi : i < l.length) (h : plainC l[i] = false) : l.all plainC = false := by
  rw [Bool.eq_false_iff]
  intro ht
  have := List.all_eq_true.1 ht l[i] (List.getElem_mem hi)
  rw [h] at this; cases this

set_option maxRecDepth 100000 in
set_option maxHeartbeats 4000000 in
theorem clisName_any (s : ByteArray) (w : World) (hs : s.size ≤ 1000000) :
    Calls Tryz.prog 106 #[.string s] w fun e w' => e = .returned (.bool (nameB s)) ∧ Below w.heap.size w w' := by
  have HW := Lib.hid (fun W => clwithin_any s.size 1 40 W)
  have HP := Lib.hid (fun W => Tryz.strings_HasPrefix s ⟨#[32]⟩ W)
  have HS := Lib.hid (fun W => Tryz.strings_HasSuffix s ⟨#[32]⟩ W (by omega))
  obtain ⟨r, hr⟩ : ∃ r, nameB s = r := ⟨_, rfl⟩
  rw [hr]
  unfold nameB at hr
  cases h1 : inB s.size 1 40 with
  | false =>
    rw [h1] at HW hr
    rw [Bool.false_and] at hr
    subst hr
    clear h1
    go_enter Tryz.func106, Tryz.ntmps106
    go_wp2_with fail
    refine (HW.out _).mono ?_
    rintro e w1 ⟨rfl, rfl⟩
    go_wp2
    go_ret
    exact ⟨rfl, Below.refl _ _⟩
  | true =>
    rw [h1] at HW hr
    rw [Bool.true_and] at hr
    cases h2 : hasPrefix s.data.toList [32] with
    | true =>
      rw [show (⟨#[32]⟩ : ByteArray).data.toList = [32] from rfl, h2] at HP
      rw [h2, Bool.not_true, Bool.false_and] at hr
      subst hr
      clear h1 h2
      go_enter Tryz.func106, Tryz.ntmps106
      go_wp2_with fail
      refine (HW.out _).mono ?_
      rintro e w1 ⟨rfl, rfl⟩
      go_wp2_with fail
      refine (HP.out _).mono ?_
      rintro e w1 ⟨rfl, rfl⟩
      go_wp2
      go_ret
      exact ⟨rfl, Below.refl _ _⟩
    | false =>
      rw [show (⟨#[32]⟩ : ByteArray).data.toList = [32] from rfl, h2] at HP
      rw [h2, Bool.not_false, Bool.true_and] at hr
      cases h3 : hasSuffix s.data.toList [32] with
      | true =>
        rw [show (⟨#[32]⟩ : ByteArray).data.toList = [32] from rfl, h3] at HS
        rw [h3, Bool.not_true, Bool.false_and] at hr
        subst hr
        clear h1 h2 h3
        go_enter Tryz.func106, Tryz.ntmps106
        go_wp2_with fail
        refine (HW.out _).mono ?_
        rintro e w1 ⟨rfl, rfl⟩
        go_wp2_with fail
        refine (HP.out _).mono ?_
        rintro e w1 ⟨rfl, rfl⟩
        go_wp2_with fail
        refine (HS.out _).mono ?_
        rintro e w1 ⟨rfl, rfl⟩
        go_wp2
        go_ret
        exact ⟨rfl, Below.refl _ _⟩
      | false =>
        rw [show (⟨#[32]⟩ : ByteArray).data.toList = [32] from rfl, h3] at HS
        rw [h3, Bool.not_false, Bool.true_and] at hr
        have HR := Lib.hid hr
        clear h1 h2 h3 hr
        have hsl := size_list s
        have HSL := Lib.hid hsl
        clear hsl
        go_enter Tryz.func106, Tryz.ntmps106
        go_wp2_with fail
        refine (HW.out _).mono ?_
        rintro e w1 ⟨rfl, rfl⟩
        go_wp2_with fail
        refine (HP.out _).mono ?_
        rintro e w1 ⟨rfl, rfl⟩
        go_wp2_with fail
        refine (HS.out _).mono ?_
        rintro e w1 ⟨rfl, rfl⟩
        go_wp2
        go_loopw [4] (fun _ wr => ∃ pos : Nat, wr = w1.iter s pos ∧ pos ≤ s.size ∧ Hid ((s.data.toList.take pos).all plainC = true)) (fun _ wr => s.size - wr.iterPos w1.heap.size)
        case atStart => exact ⟨0, rfl, Nat.zero_le _, Lib.hid rfl⟩
        case round =>
          obtain ⟨pos, rfl, hpos, HG⟩ := hrel
          have hbel : ∀ p, Below w1.heap.size w1 (w1.iter s p) := fun p => below_alloc w1 _
          have HBEL := Lib.hid hbel
          clear hbel
          by_cases hp : pos < s.size
          · have hlx : pos < s.data.toList.length := by rw [← HSL.out]; exact hp
            have hnx : ∀ ty, (Instr.next (.pointer (some ⟨w1.heap.size, 0, none⟩)) true ty).run Tryz.prog (w1.iter s pos) = _ := fun ty => run_next_any w1 s pos ty hp
            have hby : s[pos] = s.data.toList[pos] := rfl
            have hstep : (s.data.toList.take (pos + 1)).all plainC = ((s.data.toList.take pos).all plainC && plainC s[pos]) := by
              rw [List.take_succ_eq_append_getElem hlx, List.all_append]; simp [hby]
            have hbad : plainC s[pos] = false → r = false := fun h => by rw [← HR.out]; exact all_false hlx h
            rw [HG.out, Bool.true_and] at hstep
            have hdec : (plainC s[pos] = true ∧ Utf8.decode s pos = (s[pos].toNat, 1) ∧ 32 ≤ s[pos].toNat ∧ s[pos].toNat ≤ 126) ∨ (plainC s[pos] = false ∧ (Utf8.decode s pos).1 < 32) ∨ (plainC s[pos] = false ∧ 126 < (Utf8.decode s pos).1) := by
              unfold plainC
              by_cases ha : s[pos].toNat < 128
              · have hd := decode_ascii s pos hp ha
                by_cases h32 : s[pos].toNat < 32
                · exact Or.inr (Or.inl ⟨decide_eq_false (by omega), by rw [hd]; exact h32⟩)
                · by_cases h126 : s[pos].toNat ≤ 126
                  · exact Or.inl ⟨decide_eq_true (by omega), hd, by omega, h126⟩
                  · exact Or.inr (Or.inr ⟨decide_eq_false (by omega), by rw [hd]; show 126 < s[pos].toNat; omega⟩)
              · have hd := decode_high s pos hp (by omega)
                exact Or.inr (Or.inr ⟨decide_eq_false (by omega), by omega⟩)
            generalize plainC s[pos] = q at hstep hbad hdec
            rcases hdec with ⟨rfl, hd, hlo, hhi⟩ | ⟨rfl, hlo⟩ | ⟨rfl, hhi⟩
            · rw [hd] at hnx
              have HST := Lib.hid hstep
              have hlo2 : (32 : Int) ≤ (s[pos].toNat : Int) := by omega
              have hhi2 : (s[pos].toNat : Int) ≤ 126 := by omega
              generalize s[pos].toNat = x at *
              clear hstep hbad hd hby
              go_wp2
              go_roundw
              case rel => exact ⟨pos + 1, rfl, by omega, HST⟩
              case measure => simp; omega
            · obtain rfl := hbad rfl
              have hlo2 : ((Utf8.decode s pos).1 : Int) < 32 := by omega
              generalize (Utf8.decode s pos).1 = x at *
              generalize (Utf8.decode s pos).2 = y at *
              clear hstep hbad hby
              go_wp2
              go_ret
              exact ⟨rfl, HBEL.out _⟩
            · obtain rfl := hbad rfl
              have hlo2 : (126 : Int) < ((Utf8.decode s pos).1 : Int) := by omega
              have hlo3 : ¬ ((Utf8.decode s pos).1 : Int) < 32 := by omega
              generalize (Utf8.decode s pos).1 = x at *
              generalize (Utf8.decode s pos).2 = y at *
              clear hstep hbad hby
              go_wp2
              go_ret
              exact ⟨rfl, HBEL.out _⟩
          · obtain rfl : pos = s.size := by omega
            have hnx : ∀ ty, (Instr.next (.pointer (some ⟨w1.heap.size, 0, none⟩)) true ty).run Tryz.prog (w1.iter s s.size) = _ := fun ty => run_next_end w1 s s.size ty hp
            have hg := HG.out
            rw [HSL.out, List.take_length, HR.out] at hg
            subst hg
            go_wp2
            go_ret
            exact ⟨rfl, HBEL.out _⟩

end Go.Proofs.YtionnohajnnfmaaGreatDoor
