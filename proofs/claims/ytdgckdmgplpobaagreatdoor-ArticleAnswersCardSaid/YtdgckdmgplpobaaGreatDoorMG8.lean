/- Texts of one claim, merged: Rplain, RclGM, RclG, RartN, RartS, Cal, CalAwake, CMonths, RCal, RCParse, RtxL. -/
import Derived.Test.YtdgckdmgplpobaaGreatDoorMRpgA
import Derived.Test.YtdgckdmgplpobaaGreatDoorMRpgB
import Derived.Test.YtdgckdmgplpobaaGreatDoorMRpgC
import Derived.Test.YtdgckdmgplpobaaGreatDoorMRpgD
import Derived.Deep.QuietTactic
import Derived.BigQuiet
import Derived.Test.YtdgckdmgplpobaaGreatDoorMG3
import Derived.Test.YtdgckdmgplpobaaGreatDoorMG1
import Derived.Test.YtdgckdmgplpobaaGreatDoorMG2
/- The contract of the article's reference's Plain, of any article: whether it is plain. -/
set_option linter.unusedSimpArgs false
set_option linter.unusedVariables false
namespace Go.Proofs.YtdgckdmgplpobaaGreatDoor
open Go.RowKit Go.Lib Go.Proofs

noncomputable def plainB (a : Art) : Bool := !((textA a).toList == (⟨#[]⟩ : ByteArray).toList)
theorem plainB_true {a : Art} : plainB a = true ↔ textA a ≠ ⟨#[]⟩ := by
  unfold plainB
  constructor
  · intro h e
    rw [e] at h
    simp at h
  · intro h
    rw [strEq_false h]; rfl
theorem plainB_false {a : Art} (h : textA a = ⟨#[]⟩) : plainB a = false := by
  unfold plainB
  rw [h]
  simp

theorem plainB_chk {a : Art} (h1 : 1 ≤ a.kind) (h2 : a.kind ≤ 10) (hu : usedA a = a) : plainB a = chkB a := by
  cases hc : chkB a with
  | true => exact plainB_true.2 (chk_plain h1 h2 hu hc)
  | false =>
    refine plainB_false ?_
    by_cases h : textA a = ⟨#[]⟩
    · exact h
    · have := (plain_chk h).2.2.2
      rw [hc] at this; cases this

set_option maxRecDepth 100000 in
set_option maxHeartbeats 4000000 in
theorem rplain_out (kd : Int) (cd ot nm : ByteArray) (yr am pc nu dy ls wh : Int) (h : kd < 1 ∨ 10 < kd) (w : World) :
    Calls Tryz.prog 11 #[.agg #[.int .i64 kd, .string cd, .string ot, .string nm, .int .i64 yr, .int .i64 am, .int .i64 pc, .int .i64 nu, .int .i64 dy, .int .i64 ls, .int .i64 wh]] w fun e w' => e = .returned (.bool false) ∧ Below w.heap.size w w' := by
  rcases h with h | h
  · have hd1 : decide (kd < 1) = true := decide_eq_true h
    go_enter Tryz.func11, Tryz.ntmps11
    go_wp2_with fail
    go_quiet (fail)
    go_wp2_with fail
    go_ret
    exact ⟨rfl, by first | exact below_alloc w _ | exact (below_alloc w _).drew | exact below_drewN (below_alloc w _) _⟩
  · have h1 : ¬ kd < 1 := by omega
    have hd1 : decide (kd < 1) = false := decide_eq_false h1
    have hd2 : decide (10 < kd) = true := decide_eq_true h
    go_enter Tryz.func11, Tryz.ntmps11
    go_wp2_with fail
    go_quiet (fail)
    go_wp2_with fail
    go_ret
    exact ⟨rfl, by first | exact below_alloc w _ | exact (below_alloc w _).drew | exact below_drewN (below_alloc w _) _⟩

theorem rused_any (kd : Int) (cd ot nm : ByteArray) (yr am pc nu dy ls wh : Int) (h1 : 1 ≤ kd) (h2 : kd ≤ 10) (w : World) :
    Calls Tryz.prog 29 #[.agg #[.int .i64 kd, .string cd, .string ot, .string nm, .int .i64 yr, .int .i64 am, .int .i64 pc, .int .i64 nu, .int .i64 dy, .int .i64 ls, .int .i64 wh]] w fun e w' => e = .returned (.agg (usedA ⟨kd, cd, ot, nm, yr, am, pc, nu, dy, ls, wh⟩).cells) ∧ Below w.heap.size w w' := by
  rcases (by omega : kd = 1 ∨ kd = 2 ∨ kd = 3 ∨ kd = 4 ∨ kd = 5 ∨ kd = 6 ∨ kd = 7 ∨ kd = 8 ∨ kd = 9 ∨ kd = 10) with rfl | rfl | rfl | rfl | rfl | rfl | rfl | rfl | rfl | rfl
  · exact rused_1 cd ot nm yr am pc nu dy ls wh w
  · exact rused_2 cd ot nm yr am pc nu dy ls wh w
  · exact rused_3 cd ot nm yr am pc nu dy ls wh w
  · exact rused_4 cd ot nm yr am pc nu dy ls wh w
  · exact rused_5 cd ot nm yr am pc nu dy ls wh w
  · exact rused_6 cd ot nm yr am pc nu dy ls wh w
  · exact rused_7 cd ot nm yr am pc nu dy ls wh w
  · exact rused_8 cd ot nm yr am pc nu dy ls wh w
  · exact rused_9 cd ot nm yr am pc nu dy ls wh w
  · exact rused_10 cd ot nm yr am pc nu dy ls wh w

set_option maxRecDepth 100000 in
set_option maxHeartbeats 4000000 in
theorem rplain_more (kd : Int) (cd ot nm : ByteArray) (yr am pc nu dy ls wh : Int) (h1 : 1 ≤ kd) (h2 : kd ≤ 10) (hu : usedA ⟨kd, cd, ot, nm, yr, am, pc, nu, dy, ls, wh⟩ ≠ ⟨kd, cd, ot, nm, yr, am, pc, nu, dy, ls, wh⟩) (w : World) :
    Calls Tryz.prog 11 #[.agg #[.int .i64 kd, .string cd, .string ot, .string nm, .int .i64 yr, .int .i64 am, .int .i64 pc, .int .i64 nu, .int .i64 dy, .int .i64 ls, .int .i64 wh]] w fun e w' => e = .returned (.bool false) ∧ Below w.heap.size w w' := by
  have HU := Lib.hid (fun W => rused_any kd cd ot nm yr am pc nu dy ls wh h1 h2 W)
  have hq := fun W => art_differ W (usedA ⟨kd, cd, ot, nm, yr, am, pc, nu, dy, ls, wh⟩) ⟨kd, cd, ot, nm, yr, am, pc, nu, dy, ls, wh⟩ hu
  obtain ⟨k', cd', ot', nm', yr', am', pc', nu', dy', ls', wh'⟩ := usedA ⟨kd, cd, ot, nm, yr, am, pc, nu, dy, ls, wh⟩
  simp only [Art.cells] at hq HU
  have k1 : ¬ kd < 1 := by omega
  have k2 : ¬ 10 < kd := by omega
  have hd1 : decide (kd < 1) = false := decide_eq_false k1
  have hd2 : decide (10 < kd) = false := decide_eq_false k2
  clear hu
  go_enter Tryz.func11, Tryz.ntmps11
  go_upto_region 1 with fail
  have hb0 : Below (w.heap.size + 1) (w.alloc (.cells #[.int .i64 kd, .string cd, .string ot, .string nm, .int .i64 yr, .int .i64 am, .int .i64 pc, .int .i64 nu, .int .i64 dy, .int .i64 ls, .int .i64 wh] 24)) (w.alloc (.cells #[.int .i64 kd, .string cd, .string ot, .string nm, .int .i64 yr, .int .i64 am, .int .i64 pc, .int .i64 nu, .int .i64 dy, .int .i64 ls, .int .i64 wh] 24)) := Below.refl _ _
  go_region_held3 (fun W => ∀ j, W.cell? ⟨w.heap.size, j, none⟩ = #[.int .i64 kd, .string cd, .string ot, .string nm, .int .i64 yr, .int .i64 am, .int .i64 pc, .int .i64 nu, .int .i64 dy, .int .i64 ls, .int .i64 wh][j]?) (first | exact boxg_below (by assumption) | exact boxg_below (Below.drew (by assumption)))
    (first | (go_at_call 29; (with_reducible refine (HU.out _).mono ?_); rintro e w1 ⟨rfl, hb1'⟩; (have hb1 : Below (w.heap.size + 1) (w.alloc (.cells #[.int .i64 kd, .string cd, .string ot, .string nm, .int .i64 yr, .int .i64 am, .int .i64 pc, .int .i64 nu, .int .i64 dy, .int .i64 ls, .int .i64 wh] 24)) w1 := (by first | exact hb0.trans (hb1'.mono (by simp)) | exact hb0.drew.trans (hb1'.mono (by simp)))); clear hb1'))
  have HB : Hid (Below (w.heap.size + 1) (w.alloc (.cells #[.int .i64 kd, .string cd, .string ot, .string nm, .int .i64 yr, .int .i64 am, .int .i64 pc, .int .i64 nu, .int .i64 dy, .int .i64 ls, .int .i64 wh] 24)) w1) := Lib.hid (by assumption)
  clear hb0 HU hq
  go_wp2_with fail
  go_ret
  exact ⟨rfl, (below_alloc w _).trans (HB.out.mono (Nat.le_succ _))⟩

theorem rplain_any (kd : Int) (cd ot nm : ByteArray) (yr am pc nu dy ls wh : Int) (z1 : cd.size ≤ 1000000) (z2 : ot.size ≤ 1000000) (z3 : nm.size ≤ 1000000) (w : World) :
    Calls Tryz.prog 11 #[.agg #[.int .i64 kd, .string cd, .string ot, .string nm, .int .i64 yr, .int .i64 am, .int .i64 pc, .int .i64 nu, .int .i64 dy, .int .i64 ls, .int .i64 wh]] w fun e w' => e = .returned (.bool (plainB ⟨kd, cd, ot, nm, yr, am, pc, nu, dy, ls, wh⟩)) ∧ Below w.heap.size w w' := by
  by_cases hk : 1 ≤ kd ∧ kd ≤ 10
  · obtain ⟨h1, h2⟩ := hk
    by_cases hu : usedA ⟨kd, cd, ot, nm, yr, am, pc, nu, dy, ls, wh⟩ = ⟨kd, cd, ot, nm, yr, am, pc, nu, dy, ls, wh⟩
    · rw [plainB_chk h1 h2 hu]
      rcases (by omega : kd = 1 ∨ kd = 2 ∨ kd = 3 ∨ kd = 4 ∨ kd = 5 ∨ kd = 6 ∨ kd = 7 ∨ kd = 8 ∨ kd = 9 ∨ kd = 10) with rfl | rfl | rfl | rfl | rfl | rfl | rfl | rfl | rfl | rfl
      all_goals simp [usedA, Art.none] at hu
      · obtain ⟨rfl, rfl, rfl, rfl, rfl, rfl, rfl, rfl⟩ := hu
        exact rpg_years yr nu ⟨trivial, trivial⟩ w
      · obtain ⟨rfl, rfl, rfl, rfl, rfl, rfl, rfl, rfl⟩ := hu
        exact rpg_heading cd nm ⟨z1, z3⟩ w
      · obtain ⟨rfl, rfl, rfl, rfl, rfl, rfl, rfl⟩ := hu
        exact rpg_line cd yr am ⟨z1, trivial⟩ w
      · obtain ⟨rfl, rfl, rfl, rfl, rfl, rfl, rfl⟩ := hu
        exact rpg_ceiling cd yr am ⟨z1, trivial⟩ w
      · obtain ⟨rfl, rfl, rfl, rfl, rfl, rfl, rfl⟩ := hu
        exact rpg_floor cd yr am ⟨z1, trivial⟩ w
      · obtain ⟨rfl, rfl, rfl, rfl, rfl, rfl, rfl⟩ := hu
        exact rpg_earmark cd ot pc ⟨z1, z2⟩ w
      · obtain ⟨rfl, rfl, rfl, rfl, rfl, rfl⟩ := hu
        exact rpg_wait cd yr am dy ⟨z1, trivial⟩ w
      · obtain ⟨rfl, rfl, rfl, rfl, rfl⟩ := hu
        exact rpg_reach cd ot yr am ls ⟨z1, z2⟩ w
      · obtain ⟨rfl, rfl, rfl, rfl, rfl, rfl⟩ := hu
        exact rpg_rule cd ot pc nu ⟨z1, z2⟩ w
      · obtain ⟨rfl, rfl, rfl, rfl⟩ := hu
        by_cases w1 : wh = 1
        · subst w1; exact rpg_amend1 cd yr am nu dy ⟨z1, trivial⟩ w
        · by_cases w2 : wh = 2
          · subst w2; exact rpg_amend2 cd yr am nu dy ⟨z1, trivial⟩ w
          · by_cases w3 : wh = 3
            · subst w3; exact rpg_amend3 cd yr am nu dy ⟨z1, trivial⟩ w
            · exact rpg_amend0 cd yr am nu dy wh w1 w2 w3 ⟨z1, trivial⟩ w
    · rw [plainB_false (by
        by_cases h : textA ⟨kd, cd, ot, nm, yr, am, pc, nu, dy, ls, wh⟩ = ⟨#[]⟩
        · exact h
        · exact absurd (plain_chk h).2.2.1 hu)]
      exact rplain_more kd cd ot nm yr am pc nu dy ls wh h1 h2 hu w
  · rw [plainB_false (by
      by_cases h : textA ⟨kd, cd, ot, nm, yr, am, pc, nu, dy, ls, wh⟩ = ⟨#[]⟩
      · exact h
      · exact absurd ⟨(plain_chk h).1, (plain_chk h).2.1⟩ hk)]
    exact rplain_out kd cd ot nm yr am pc nu dy ls wh (by omega) w

theorem rplain_yes (a : Art) (h : textA a ≠ ⟨#[]⟩) (w : World) : Calls Tryz.prog 11 #[.agg a.cells] w fun e w' => e = .returned (.bool true) ∧ Below w.heap.size w w' := by
  obtain ⟨kd, cd, ot, nm, yr, am, pc, nu, dy, ls, wh⟩ := a
  have hb := plain_bd h
  have hc := hb.c
  have ho := hb.o
  have hn := hb.n
  simp only at hc ho hn
  have := rplain_any kd cd ot nm yr am pc nu dy ls wh (by omega) (by omega) (by omega) w
  rw [plainB_true.2 h] at this
  exact this

end Go.Proofs.YtdgckdmgplpobaaGreatDoor

/- Plain mathematics of reading a code byte by byte, as the classification's reference does in Good; of no function of the program; no condition. -/
namespace Go.Proofs.YtdgckdmgplpobaaGreatDoor
open Go.RowKit Go.Lib Go.Proofs

def GoodTo (D : List UInt8) (k g p : Nat) : Prop := ∃ out n, ReadTo D k out n g ∧ p = out.length + 1 ∧ g ≤ 2 ∧ (1 ≤ g → ∀ h : k - g < D.length, D[k - g] ≠ 48)

theorem GoodTo.start (D : List UInt8) : GoodTo D 0 0 1 := ⟨[], 0, ReadTo.start D, rfl, by omega, fun h => by omega⟩

theorem GoodTo.bounds {D : List UInt8} {k g p : Nat} (h : GoodTo D k g p) : g ≤ 2 ∧ g ≤ k ∧ p ≤ k + 1 ∧ k ≤ D.length := by
  obtain ⟨out, n, h1, h2, h3, _⟩ := h
  obtain ⟨b1, _, b3, _⟩ := h1.bounds
  exact ⟨h3, b1, by omega, h1.le⟩

theorem GoodTo.digit {D : List UInt8} {k g p : Nat} (h : GoodTo D k g p) (hi : k < D.length) (hd : digitB D[k] = true) (hz : ¬ (g = 0 ∧ D[k] = 48)) (h2 : g ≠ 2) : GoodTo D (k + 1) (g + 1) p := by
  obtain ⟨out, n, h1, hp, hg, h0⟩ := h
  refine ⟨out, _, h1.digit hi hd, hp, by omega, fun _ hk => ?_⟩
  have b := h1.bounds.1
  by_cases hg0 : g = 0
  · subst hg0
    exact fun e => hz ⟨rfl, e⟩
  · have e : k + 1 - (g + 1) = k - g := by omega
    have := h0 (by omega) (by omega)
    simpa only [e] using this

theorem GoodTo.point {D : List UInt8} {k g p : Nat} (h : GoodTo D k g p) (hi : k < D.length) (hp : D[k] = 46) (hg : 1 ≤ g) : GoodTo D (k + 1) 0 (p + 1) := by
  obtain ⟨out, n, h1, hpl, hg2, h0⟩ := h
  have b := h1.bounds.1
  exact ⟨out ++ [n], 0, h1.point hi hp hg hg2 (h0 hg (by omega)), by simp [hpl], by omega, fun h => by omega⟩

theorem GoodTo.badWord {s : ByteArray} {k p : Nat} (h : GoodTo s.data.toList k 0 p) (hend : k = s.data.toList.length ∨ ∃ h : k < s.data.toList.length, s.data.toList[k] = 46) : partsN s = [] := by
  obtain ⟨out, n, h1, _⟩ := h
  exact h1.badWord hend (Or.inl rfl)

theorem GoodTo.badByte {s : ByteArray} {k g p : Nat} (h : GoodTo s.data.toList k g p) (hi : k < s.data.toList.length) (hp : s.data.toList[k] ≠ 46) (hd : digitB s.data.toList[k] = false) : partsN s = [] := by
  obtain ⟨out, n, h1, _⟩ := h
  exact h1.badByte hi hp hd

theorem GoodTo.last {s : ByteArray} {g p : Nat} (h : GoodTo s.data.toList s.data.toList.length g p) (hg : 1 ≤ g) : isCodeB s = decide (p ≤ 4) := by
  obtain ⟨out, n, h1, hp, hg2, h0⟩ := h
  have b := h1.bounds.1
  have hn := h1.last hg hg2 b (h0 hg (by omega))
  have := partsN_of hn
  have hl : (out ++ [n]).length = p := by simp [hp]
  rw [hl] at this
  unfold isCodeB
  rw [this]
  by_cases h4 : p ≤ 4
  · rw [if_pos h4]; simp [h4]
  · rw [if_neg h4]; simp [h4]
end Go.Proofs.YtdgckdmgplpobaaGreatDoor

/- The contract of Good of the classification's reference: whether a text is a code; for texts of up to 10^6 bytes. -/
namespace Go.Proofs.YtdgckdmgplpobaaGreatDoor
open Go.RowKit Go.Lib Go.Proofs

end Go.Proofs.YtdgckdmgplpobaaGreatDoor

/- Contracts of Number, value and span of the article's reference; for texts of up to 10^6 bytes. -/
namespace Go.Proofs.YtdgckdmgplpobaaGreatDoor
open Go.RowKit Go.Lib Go.Proofs

theorem digit_back {c : UInt8} (h : digitB c = true) : UInt8.ofNat (48 + (c.toNat - 48)) = c ∧ c.toNat - 48 < 10 := by
  obtain ⟨d, h1, h2, h3⟩ := digit_cases h
  rw [h3, show 48 + d - 48 = d by omega]
  exact ⟨h2.symm, h1⟩

theorem digits_dval : ∀ (n : Nat) (l : List UInt8), l.length = n + 1 → (∀ c ∈ l, digitB c = true) → (1 < l.length → l.getD 0 0 ≠ 48) → decDigits (dval l) = l
  | 0, l, hl, hd, _ => by
    obtain ⟨c, rfl⟩ : ∃ c, l = [c] := by
      cases l with
      | nil => simp at hl
      | cons c t =>
        have : t = [] := List.eq_nil_of_length_eq_zero (by simpa using hl)
        exact ⟨c, by rw [this]⟩
    obtain ⟨b1, b2⟩ := digit_back (hd c (by simp))
    have e : dval [c] = c.toNat - 48 := by simp [dval]
    rw [e, dec_one _ b2, b1]
  | n + 1, l, hl, hd, hz => by
    have hne : l ≠ [] := by intro e; rw [e] at hl; simp at hl
    have hsplit := List.dropLast_concat_getLast hne
    obtain ⟨m, hm⟩ : ∃ m, m = l.dropLast := ⟨_, rfl⟩
    obtain ⟨c, hc⟩ : ∃ c, c = l.getLast hne := ⟨_, rfl⟩
    rw [← hm, ← hc] at hsplit
    have hml : m.length = n + 1 := by
      have := congrArg List.length hsplit
      rw [List.length_append, List.length_singleton] at this
      omega
    have hmd : ∀ x ∈ m, digitB x = true := fun x hx => hd x (by rw [← hsplit]; simp [hx])
    have hcd : digitB c = true := hd c (by rw [← hsplit]; simp)
    obtain ⟨x, t, hmx⟩ : ∃ x t, m = x :: t := by
      cases m with
      | nil => simp at hml
      | cons x t => exact ⟨x, t, rfl⟩
    have hhead : m.getD 0 0 ≠ 48 := by
      have := hz (by omega)
      rw [← hsplit, hmx] at this
      rw [hmx]
      exact this
    have ih := digits_dval n m hml hmd (fun _ => hhead)
    have hpos : 1 ≤ dval m := by
      by_cases h0 : dval m = 0
      · rw [h0, dec_one 0 (by omega)] at ih
        rw [← ih] at hhead
        exact absurd rfl hhead
      · omega
    obtain ⟨b1, b2⟩ := digit_back hcd
    rw [← hsplit, dval_snoc, decDigits_step _ (by omega), show (10 * dval m + (c.toNat - 48)) / 10 = dval m by omega, show (10 * dval m + (c.toNat - 48)) % 10 = c.toNat - 48 by omega, ih, b1]

theorem digits_head : ∀ (u : Nat), 1 < (decDigits u).length → (decDigits u).getD 0 0 ≠ 48 := by
  intro u
  induction u using Nat.strongRecOn with
  | _ u ih =>
    intro hl
    by_cases h : u < 10
    · rw [dec_one u h] at hl; simp at hl
    · rw [decDigits_step u h]
      by_cases h2 : u / 10 < 10
      · rw [dec_one _ h2]
        show UInt8.ofNat (48 + u / 10) ≠ 48
        intro e
        have := congrArg UInt8.toNat e
        simp at this
        omega
      · have h3 : 1 < (decDigits (u / 10)).length := by
          rw [decDigits_step _ h2, List.length_append, List.length_singleton]
          have := List.length_pos_iff.2 (digits_ne (u / 10 / 10))
          omega
        have := ih (u / 10) (by omega) h3
        cases hd : decDigits (u / 10) with
        | nil => rw [hd] at h3; simp at h3
        | cons x t => rw [hd] at this; exact this

theorem numT_dval {s : ByteArray} (h1 : 1 ≤ s.size) (h15 : s.size ≤ 15) (hd : ∀ c ∈ s.data.toList, digitB c = true) (hz : 1 < s.size → s.data.toList.getD 0 0 ≠ 48) : numT s = some (dval s.data.toList) := by
  have hlen : s.data.toList.length = s.size := (size_list s).symm
  have e := digits_dval (s.size - 1) s.data.toList (by omega) hd (fun h => hz (by omega))
  exact numT_some.2 ⟨len_digits (by rw [e]; omega), e⟩
theorem numT_bad {s : ByteArray} (h : s.size < 1 ∨ 15 < s.size ∨ (1 < s.size ∧ s.data.toList.getD 0 0 = 48) ∨ ∃ c ∈ s.data.toList, digitB c = false) : numT s = none := by
  have hlen : s.data.toList.length = s.size := (size_list s).symm
  refine numT_none.2 fun u hu e => ?_
  rcases h with h | h | ⟨h, h2⟩ | ⟨c, hc, h2⟩
  · have := List.length_pos_iff.2 (digits_ne u)
    rw [e] at this
    omega
  · have := digits_len hu
    rw [e] at this
    omega
  · have := digits_head u (by rw [e]; omega)
    rw [e] at this
    exact this h2
  · rw [← e] at hc
    rw [digits_all u c hc] at h2
    cases h2

theorem dval_take {l : List UInt8} {k : Nat} (hk : k < l.length) : dval (l.take (k + 1)) = 10 * dval (l.take k) + (l[k].toNat - 48) := by
  rw [List.take_succ_eq_append_getElem hk, dval_snoc]

set_option maxRecDepth 100000 in
set_option maxHeartbeats 4000000 in
theorem rarNumber_any (s : ByteArray) (w : World) (hs : s.size ≤ 1000000) :
    Calls Tryz.prog 21 #[.string s] w fun e w' => e = .returned (.tuple #[.int .i64 (numI s), .bool (numT s).isSome]) ∧ w' = w := by
  have hlen : s.data.toList.length = s.size := (size_list s).symm
  have HLEN := Lib.hid hlen
  obtain ⟨n, hn⟩ : ∃ n, n = numI s := ⟨_, rfl⟩
  obtain ⟨b, hb⟩ : ∃ b, b = (numT s).isSome := ⟨_, rfl⟩
  rw [← hn, ← hb]
  have HBAD : Hid (numT s = none → n = 0 ∧ b = false) := Lib.hid fun h => ⟨hn.trans (numI_none h), by rw [hb, h]; rfl⟩
  have HGOOD : Hid (∀ u : Nat, numT s = some u → n = u ∧ b = true) := Lib.hid fun u h => ⟨hn.trans (numI_some h), by rw [hb, h]; rfl⟩
  clear hn hb hlen
  by_cases h1 : s.size < 1
  · obtain ⟨rfl, rfl⟩ := HBAD.out (numT_bad (Or.inl h1))
    have h1' : (s.size : Int) < 1 := by omega
    go_enter Tryz.func21, Tryz.ntmps21
    go_wp2
    go_ret2
    exact ⟨rfl, rfl⟩
  have h1' : ¬ (s.size : Int) < 1 := by omega
  by_cases h15 : 15 < s.size
  · obtain ⟨rfl, rfl⟩ := HBAD.out (numT_bad (Or.inr (Or.inl h15)))
    have h15' : (15 : Int) < (s.size : Int) := by omega
    go_enter Tryz.func21, Tryz.ntmps21
    go_wp2
    go_ret2
    exact ⟨rfl, rfl⟩
  have h15' : ¬ (15 : Int) < (s.size : Int) := by omega
  have h0 : 0 < s.size := by omega
  have hget0 : s.data.toList.getD 0 0 = s[0] := by
    rw [List.getD_eq_getElem?_getD, List.getElem?_eq_getElem (by rw [HLEN.out]; exact h0)]
    rfl
  by_cases hz : 1 < s.size ∧ s[0] = 48
  · obtain ⟨rfl, rfl⟩ := HBAD.out (numT_bad (Or.inr (Or.inr (Or.inl ⟨hz.1, hget0.trans hz.2⟩))))
    have hz1 : (1 : Int) < (s.size : Int) := by omega
    have hz2 : ((s[0].toNat : Int) == 48) = true := by rw [hz.2]; rfl
    clear hget0 hz
    go_enter Tryz.func21, Tryz.ntmps21
    go_wp2
    go_ret2
    exact ⟨rfl, rfl⟩
  have HZ : Hid (1 < s.size → s.data.toList.getD 0 0 ≠ 48) := Lib.hid fun h e => hz ⟨h, hget0.symm.trans e⟩
  have hguard : (s.size = 1 ∧ (s.size : Int) = 1) ∨ (1 < s.size ∧ (1 : Int) < (s.size : Int) ∧ ((s[0].toNat : Int) == 48) = false) := by
    by_cases h2 : 1 < s.size
    · right
      refine ⟨h2, by omega, ?_⟩
      rw [beq_eq_false_iff_ne]
      exact fun e => hz ⟨h2, byte_int (n := 48) (by omega) (by omega)⟩
    · left; omega
  clear hget0 hz
  rcases hguard with ⟨hg0, hg⟩ | ⟨hg0, hg, hg2⟩
  all_goals
    (try (have hg3 : ¬ (1 : Int) < (s.size : Int) := by omega))
    go_enter Tryz.func21, Tryz.ntmps21
    go_wp2
    go_loopw [4, 5] (fun a i wr => ∃ (k dv : Nat), a = .int .i64 dv ∧ i = .int .i64 k ∧ k ≤ s.size ∧ dv < 1000000000000000 ∧ wr = w ∧ Hid (dv = dval (s.data.toList.take k) ∧ dv < 10 ^ k ∧ ∀ c ∈ s.data.toList.take k, digitB c = true)) (fun _ i _ => s.size - (RowKit.intOf i).toNat)
    case atStart => exact ⟨0, 0, rfl, rfl, by omega, by omega, rfl, Lib.hid ⟨by simp [dval], by simp, by simp⟩⟩
    case round =>
      obtain ⟨k, dv, rfl, rfl, hk, hdv, rfl, HD⟩ := hrel
      by_cases hlt : k < s.size
      · have hk0 : (0 : Int) ≤ (k : Int) := by omega
        have hk1 : (k : Int) < (s.size : Int) := by omega
        have hkl : k < s.data.toList.length := by rw [HLEN.out]; exact hlt
        have hget : s.data.toList[k] = s[k] := rfl
        by_cases hd : 48 ≤ s[k].toNat ∧ s[k].toNat ≤ 57
        · have hd1 : (48 : Int) ≤ (s[k].toNat : Int) := by omega
          have hd2 : (s[k].toNat : Int) ≤ 57 := by omega
          have hp : 10 * dv + (s[k].toNat - 48) < 10 ^ (k + 1) := by
            have := HD.out.2.1
            rw [Nat.pow_succ]
            omega
          have hp2 : 10 ^ (k + 1) ≤ 1000000000000000 := by
            have : 10 ^ (k + 1) ≤ 10 ^ 15 := Nat.pow_le_pow_right (by omega) (by omega)
            simpa using this
          have HD2 : Hid (10 * dv + (s[k].toNat - 48) = dval (s.data.toList.take (k + 1)) ∧ 10 * dv + (s[k].toNat - 48) < 10 ^ (k + 1) ∧ ∀ c ∈ s.data.toList.take (k + 1), digitB c = true) := Lib.hid ⟨by rw [dval_take hkl, ← HD.out.1]; rfl, hp, by
            intro c hc
            rw [List.take_succ_eq_append_getElem hkl] at hc
            rcases List.mem_append.1 hc with hc | hc
            · exact HD.out.2.2 c hc
            · rw [List.mem_singleton.1 hc]; exact decide_eq_true hd⟩
          have hdv2 : 10 * dv + (s[k].toNat - 48) < 1000000000000000 := by omega
          clear hp hp2 hget hd
          go_wp2
          go_roundw
          case rel => exact ⟨k + 1, 10 * dv + (s[k].toNat - 48), by congr 1; omega, by first | rfl | go_num, by omega, hdv2, by first | rfl | trivial, HD2⟩
          case measure => simp [RowKit.intOf]; omega
        · obtain ⟨rfl, rfl⟩ := HBAD.out (numT_bad (Or.inr (Or.inr (Or.inr ⟨s.data.toList[k], List.getElem_mem hkl, decide_eq_false hd⟩))))
          clear hget
          by_cases h48 : s[k].toNat < 48
          · have h48' : (s[k].toNat : Int) < 48 := by omega
            clear hd
            go_wp2
            go_ret2
            exact ⟨rfl, rfl⟩
          · have h48' : (48 : Int) ≤ (s[k].toNat : Int) := by omega
            have h57' : (57 : Int) < (s[k].toNat : Int) := by omega
            clear hd
            go_wp2
            go_ret2
            exact ⟨rfl, rfl⟩
      · obtain rfl : k = s.size := by omega
        have hge : ¬ ((s.size : Int) < (s.size : Int)) := by omega
        have hall := HD.out
        rw [List.take_of_length_le (by rw [HLEN.out]; exact Nat.le_refl _)] at hall
        have hnt := numT_dval (by omega) (by omega) hall.2.2 HZ.out
        rw [← hall.1] at hnt
        obtain ⟨rfl, rfl⟩ := HGOOD.out dv hnt
        clear hall hnt
        go_wp2
        go_ret2
        exact ⟨rfl, rfl⟩

noncomputable def valI (s : ByteArray) : Int := if s = allT ∨ s = noneT then -1 else if (numT s).isSome = true then numI s else -2

theorem allT_list : allT.toList = [97, 108, 108] := by rw [ByteArray.toList_eq]; rfl
theorem noneT_list : noneT.toList = [110, 111, 110, 101] := by rw [ByteArray.toList_eq]; rfl

set_option maxHeartbeats 1000000 in
theorem rarvalue_any (s : ByteArray) (w : World) (hs : s.size ≤ 1000000) :
    Calls Tryz.prog 48 #[.string s] w fun e w' => e = .returned (.int .i64 (valI s)) ∧ w' = w := by
  have HN := Lib.hid (rarNumber_any s w hs)
  have hb := numI_bd s
  by_cases h1 : s = allT
  · have hv : valI s = -1 := by unfold valI; rw [if_pos (Or.inl h1)]
    rw [hv]
    have e1 : (s.toList == [97, 108, 108]) = true := by rw [h1, allT_list]; rfl
    clear hv h1
    go_enter Tryz.func48, Tryz.ntmps48
    go_wp2
    go_ret
    exact ⟨rfl, rfl⟩
  · have e1 : (s.toList == [97, 108, 108]) = false := by
      rw [← allT_list]
      exact strEq_false h1
    by_cases h2 : s = noneT
    · have hv : valI s = -1 := by unfold valI; rw [if_pos (Or.inr h2)]
      rw [hv]
      have e2 : (s.toList == [110, 111, 110, 101]) = true := by rw [h2, noneT_list]; rfl
      clear hv h1 h2
      go_enter Tryz.func48, Tryz.ntmps48
      go_wp2
      go_ret
      exact ⟨rfl, rfl⟩
    · have e2 : (s.toList == [110, 111, 110, 101]) = false := by
        rw [← noneT_list]
        exact strEq_false h2
      have hv : valI s = if (numT s).isSome = true then numI s else -2 := by unfold valI; rw [if_neg (fun h => h.elim h1 h2)]
      rw [hv]
      generalize numI s = n at *
      clear hv h1 h2
      cases hn : (numT s).isSome with
      | true =>
        rw [hn] at HN
        rw [if_pos rfl]
        clear hn
        go_enter Tryz.func48, Tryz.ntmps48
        go_wp2_with fail
        refine (HN.out).mono ?_
        rintro e w' ⟨rfl, rfl⟩
        go_wp2
        go_ret
        exact ⟨rfl, rfl⟩
      | false =>
        rw [hn] at HN
        rw [if_neg (by decide)]
        clear hn
        go_enter Tryz.func48, Tryz.ntmps48
        go_wp2_with fail
        refine (HN.out).mono ?_
        rintro e w' ⟨rfl, rfl⟩
        go_wp2
        go_ret
        exact ⟨rfl, rfl⟩

theorem rarspan_any (n : Int) (w : World) (hL : Lay w) (h0 : -9223372036854775808 ≤ n) (h1 : n ≤ 9223372036854775807) :
    Calls Tryz.prog 42 #[.int .i64 n] w fun e w' => e = .returned (.string (numOr n allT)) ∧ Below w.heap.size w w' := by
  by_cases hn : n = -1
  · subst hn
    show Calls Tryz.prog 42 #[.int .i64 (-1)] w fun e w' => e = .returned (.string ⟨#[97, 108, 108]⟩) ∧ Below w.heap.size w w'
    go_enter Tryz.func42, Tryz.ntmps42
    go_wp2
    go_ret
    exact ⟨rfl, Below.refl _ _⟩
  · have hv : numOr n allT = itoaT n := by unfold numOr; rw [if_neg hn]
    rw [hv]
    have HI := Lib.hid (itoa_any n w hL h0 h1)
    have hb : (n == -1) = false := by rw [beq_eq_false_iff_ne]; exact hn
    clear hv
    go_enter Tryz.func42, Tryz.ntmps42
    go_wp2_with fail
    refine (HI.out).mono ?_
    rintro e w' ⟨rfl, hb2⟩
    go_wp2
    go_ret
    exact ⟨rfl, hb2⟩

end Go.Proofs.YtdgckdmgplpobaaGreatDoor

/- The contract of split of the article's reference: the first words of a text, the last one is the rest; for texts of up to 10^6 bytes. -/
namespace Go.Proofs.YtdgckdmgplpobaaGreatDoor
open Go.RowKit Go.Lib Go.Proofs

structure SpTo (D : List UInt8) (m i b : Nat) (out : List (List UInt8)) : Prop where
  bi : b ≤ i
  il : i ≤ D.length
  len : out.length ≤ m
  oi : out.length ≤ b
  no : (32 : UInt8) ∉ (D.drop b).take (i - b)
  eq : out ++ cutK (m - out.length) (D.drop b) = cutK m D

theorem SpTo.start (D : List UInt8) (m : Nat) : SpTo D m 0 0 [] := ⟨by omega, by omega, by simp, by simp, by simp, by simp⟩

theorem drop_take_succ {D : List UInt8} {b i : Nat} (hb : b ≤ i) (hi : i < D.length) : (D.drop b).take (i + 1 - b) = (D.drop b).take (i - b) ++ [D[i]] := by
  have hk : i - b < (D.drop b).length := by rw [List.length_drop]; omega
  rw [show i + 1 - b = i - b + 1 by omega, List.take_succ_eq_append_getElem hk, List.getElem_drop]
  congr 2
  congr 1
  omega

theorem drop_split {D : List UInt8} {b i : Nat} (hb : b ≤ i) (hi : i < D.length) : D.drop b = (D.drop b).take (i - b) ++ D[i] :: D.drop (i + 1) := by
  have h1 := (List.take_append_drop (i - b) (D.drop b)).symm
  rw [List.drop_drop, show b + (i - b) = i by omega, List.drop_eq_getElem_cons hi] at h1
  exact h1

theorem SpTo.miss {D : List UInt8} {m i b : Nat} {out : List (List UInt8)} (h : SpTo D m i b out) (hi : i < D.length) (hc : D[i] ≠ 32) : SpTo D m (i + 1) b out := by
  refine ⟨by have := h.bi; omega, hi, h.len, h.oi, ?_, h.eq⟩
  rw [drop_take_succ h.bi hi]
  intro hm
  rcases List.mem_append.1 hm with hm | hm
  · exact h.no hm
  · exact hc (List.mem_singleton.1 hm).symm

theorem SpTo.hit {D : List UInt8} {m i b : Nat} {out : List (List UInt8)} (h : SpTo D m i b out) (hi : i < D.length) (hc : D[i] = 32) (hm : out.length < m) : SpTo D m (i + 1) (i + 1) (out ++ [(D.drop b).take (i - b)]) := by
  have hb := h.bi
  have ho := h.oi
  refine ⟨by omega, hi, by simp; omega, by simp; omega, by simp, ?_⟩
  have he := h.eq
  rw [drop_split hb hi, hc, show m - out.length = (m - (out.length + 1)) + 1 by omega, cutK_hit _ h.no] at he
  rw [List.length_append, List.length_singleton, List.append_assoc]
  exact he

theorem SpTo.stop {D : List UInt8} {m i b : Nat} {out : List (List UInt8)} (h : SpTo D m i b out) (he : i = D.length ∨ out.length = m) : out ++ [D.drop b] = cutK m D := by
  rw [← h.eq]
  rcases he with rfl | he
  · have hn := h.no
    rw [List.take_of_length_le (by rw [List.length_drop]; omega)] at hn
    rw [cutK_no _ hn]
  · rw [he, Nat.sub_self, cutK_zero]

theorem extract_txt (s : ByteArray) (b i : Nat) : s.extract b i = txt ((s.data.toList.drop b).take (i - b)) := bytes_ext (by rw [extract_list, txt_list])

def SplitPost (w : World) (L : List ByteArray) (e : Ending) (w' : World) : Prop := ∃ g cap, e = .returned (.slice (some ⟨g, 0, none⟩) L.length cap) ∧ w'.ownsRow w.heap.size 9 1 (.slice (some ⟨g, 0, none⟩) L.length cap) L.length (cellsS L) ∧ Below w.heap.size w w'

set_option maxRecDepth 100000 in
set_option maxHeartbeats 4000000 in
theorem rarsplit_any (s : ByteArray) (m : Nat) (w : World) (hs : s.size ≤ 1000000) (hm : m ≤ 100) :
    Calls Tryz.prog 47 #[.string s, .int .i64 ((m : Int) + 1)] w (SplitPost w ((cutK m s.data.toList).map txt)) := by
  obtain ⟨i0, hi, hz0, hz1, hz2⟩ := infoS_parts
  have hlen : s.data.toList.length = s.size := (size_list s).symm
  have HLEN := Lib.hid hlen
  clear hlen
  obtain ⟨L, hL⟩ : ∃ L, L = (cutK m s.data.toList).map txt := ⟨_, rfl⟩
  rw [← hL]
  have HL := Lib.hid hL
  clear hL
  obtain ⟨z, hz⟩ : ∃ z : Int, z = (m : Int) + 1 := ⟨_, rfl⟩
  rw [← hz]
  have HZ := Lib.hid hz
  have hzb : 1 ≤ z ∧ z ≤ 101 := by omega
  clear hz
  go_enter Tryz.func47, Tryz.ntmps47
  go_wp2
  go_loopw [5, 6, 7] (fun v b i wr => ∃ (k c : Nat) (out : List (List UInt8)), b = .int .i64 c ∧ i = .int .i64 k ∧ c ≤ k ∧ k ≤ s.size ∧ out.length ≤ m ∧ Hid (wr.ownsRow w.heap.size 9 1 v out.length (cellsS (out.map txt))) ∧ Hid (Below w.heap.size w wr) ∧ Hid (SpTo s.data.toList m k c out)) (fun _ _ i _ => s.size - (RowKit.intOf i).toNat)
  case atStart => exact ⟨0, 0, [], rfl, rfl, by omega, by omega, by simp, Lib.hid (World.ownsRow_nil _ _ _ _), Lib.hid (Below.refl _ _), Lib.hid (SpTo.start _ _)⟩
  case round =>
    obtain ⟨k, c, out, rfl, rfl, hck, hk, hol, HO, HB, HS⟩ := hrel
    obtain ⟨ao, cap, rfl, hcap, _⟩ := owns_gen HO.out
    have hc0 : (0 : Int) ≤ (c : Int) := by omega
    have hck1 : (c : Int) ≤ (k : Int) := by omega
    have hcs : (c : Int) ≤ (s.size : Int) := by omega
    have hks : (k : Int) ≤ (s.size : Int) := by omega
    by_cases hgo : k < s.size ∧ out.length < m
    · have hlt := hgo.1
      have hk0 : (0 : Int) ≤ (k : Int) := by omega
      have hk1 : (k : Int) < (s.size : Int) := by omega
      have hoz : (out.length : Int) < z - 1 := by have := HZ.out; omega
      have hkl : k < s.data.toList.length := by rw [HLEN.out]; exact hlt
      have hget : s.data.toList[k] = s[k] := rfl
      by_cases hp : s[k] = 32
      · have hb : ((s[k].toNat : Int) == 32) = true := by rw [hp]; rfl
        have HS2 := Lib.hid (HS.out.hit hkl (hget.trans hp) hgo.2)
        have hbw := HB.out.size
        have hol2 := hgo.2
        clear hget hp hgo
        go_wp2_with (at_builtin; refine wpList_append_own _ rfl _ _ 37 rfl w.heap.size 9 i0 (.string ⟨#[]⟩) 1 16 Tryz.underlying37 hi hz0 hz1 hz2 rfl (by decide) _ _ _ rfl (HO.out.alloc _) ⟨wr.heap.size, 0, none⟩ 1 1 [.string (s.extract c k)] rfl rfl (one_new _ _ _ _ rfl) (one_str _) (by unfold maxLen; omega) (by omega) (by simp; omega) ?_; intro v' w5 hown5 hgr5 _)
        have hB5 : Below w.heap.size w w5 := ((HB.out.alloc HB.out.size _).grown hgr5 (by simp; omega) fun j e => ownBlock_le HO.out j e)
        have HO5 := Lib.hid hown5
        have HB5 := Lib.hid hB5
        clear hown5 hB5 hgr5
        go_roundw
        case rel => exact ⟨k + 1, k + 1, out ++ [(s.data.toList.drop c).take (k - c)], by first | rfl | go_num, by first | rfl | go_num, by omega, by omega, by simp; omega, Lib.hid (by rw [List.map_append, List.length_append, ← cellsS_app]; have := HO5.out; rw [extract_txt] at this; exact this), HB5, HS2⟩
        case measure => simp [RowKit.intOf]; omega
      · have hb : ((s[k].toNat : Int) == 32) = false := by
          rw [beq_eq_false_iff_ne]
          exact fun e => hp (byte_int (n := 32) (by omega) (by omega))
        have HS2 := Lib.hid (HS.out.miss hkl (fun e => hp (hget.symm.trans e)))
        clear hget hp hgo
        go_wp2
        go_roundw
        case rel => exact ⟨k + 1, c, out, rfl, by first | rfl | go_num, by omega, by omega, hol, HO, HB, HS2⟩
        case measure => simp [RowKit.intOf]; omega
    · have hend : out ++ [s.data.toList.drop c] = cutK m s.data.toList := HS.out.stop (by rw [HLEN.out]; omega)
      have HE : Hid (L = out.map txt ++ [s.extract c s.size]) := Lib.hid (by rw [HL.out, ← hend, List.map_append, extract_back]; rfl)
      have hbw := HB.out.size
      have fin : ∀ v' w5, w5.ownsRow w.heap.size 9 1 v' (out.length + 1) (cellsS (out.map txt) ++ [.string (s.extract c s.size)]) → Below w.heap.size w w5 → SplitPost w L (.returned v') w5 := fun v' w5 ho hb => by
        obtain ⟨g, cap, rfl, _, _⟩ := owns_shape ho (by omega)
        have hl : L.length = out.length + 1 := by rw [HE.out]; simp
        refine ⟨g, cap, by rw [hl], ?_, hb⟩
        rw [hl, HE.out, ← cellsS_snoc]
        exact ho
      have FIN := Lib.hid fin
      clear fin hend
      by_cases hlt : k < s.size
      · have hk1 : (k : Int) < (s.size : Int) := by omega
        have hoz : ¬ ((out.length : Int) < z - 1) := by have := HZ.out; omega
        clear hgo
        go_wp2_with (at_builtin; refine wpList_append_own _ rfl _ _ 37 rfl w.heap.size 9 i0 (.string ⟨#[]⟩) 1 16 Tryz.underlying37 hi hz0 hz1 hz2 rfl (by decide) _ _ _ rfl (HO.out.alloc _) ⟨wr.heap.size, 0, none⟩ 1 1 [.string (s.extract c s.size)] rfl rfl (one_new _ _ _ _ rfl) (one_str _) (by unfold maxLen; omega) (by omega) (by simp; omega) ?_; intro v' w5 hown5 hgr5 _)
        go_ret
        exact FIN.out _ _ hown5 ((HB.out.alloc HB.out.size _).grown hgr5 (by simp; omega) fun j e => ownBlock_le HO.out j e)
      · have hk1 : ¬ (k : Int) < (s.size : Int) := by omega
        clear hgo
        go_wp2_with (at_builtin; refine wpList_append_own _ rfl _ _ 37 rfl w.heap.size 9 i0 (.string ⟨#[]⟩) 1 16 Tryz.underlying37 hi hz0 hz1 hz2 rfl (by decide) _ _ _ rfl (HO.out.alloc _) ⟨wr.heap.size, 0, none⟩ 1 1 [.string (s.extract c s.size)] rfl rfl (one_new _ _ _ _ rfl) (one_str _) (by unfold maxLen; omega) (by omega) (by simp; omega) ?_; intro v' w5 hown5 hgr5 _)
        go_ret
        exact FIN.out _ _ hown5 ((HB.out.alloc HB.out.size _).grown hgr5 (by simp; omega) fun j e => ownBlock_le HO.out j e)

end Go.Proofs.YtdgckdmgplpobaaGreatDoor

/- Contracts of the functions of package calendar that only compute with numbers; no condition but that the numbers are int64s. -/
namespace Go.Proofs.YtdgckdmgplpobaaGreatDoor
open Go.RowKit Go.Lib Go.Proofs

end Go.Proofs.YtdgckdmgplpobaaGreatDoor

/- The contract of treasurylaw02.awake: the example of the chapter holds, whatever the world; nothing that was there turns. -/
namespace Go.Proofs.YtdgckdmgplpobaaGreatDoor
open Go.RowKit Go.Lib Go.Proofs

end Go.Proofs.YtdgckdmgplpobaaGreatDoor

/- The walk of CalendarMonths: going on by months and back again; for every day and all numbers of months from -128 to 127. -/
namespace Go.Proofs.YtdgckdmgplpobaaGreatDoor
open Go.RowKit Go.Lib Go.Proofs

end Go.Proofs.YtdgckdmgplpobaaGreatDoor

/- Contracts of the functions of calendar's reference; each returns what the program's returns; no condition but that the numbers are int64s. -/
namespace Go.Proofs.YtdgckdmgplpobaaGreatDoor
open Go.RowKit Go.Lib Go.Proofs

set_option maxHeartbeats 400000 in
theorem rcValid_any (n : Int) (w : World) :
    Calls Tryz.prog 60 #[.int .i64 n] w fun e w' => e = .returned (.bool (dayB n)) ∧ w = w' := by
  by_cases h1 : 0 ≤ n
  · by_cases h2 : n ≤ 36000
    · rw [dayB_true.2 ⟨h1, h2⟩]
      go_enter Tryz.func60, Tryz.ntmps60
      go_wp2
      go_ret
      exact ⟨rfl, rfl⟩
    · rw [dayB_false.2 (fun q => h2 q.2)]
      have h3 : decide (n ≤ 36000) = false := decide_eq_false h2
      go_enter Tryz.func60, Tryz.ntmps60
      go_wp2
      go_ret
      exact ⟨rfl, rfl⟩
  · rw [dayB_false.2 (fun q => h1 q.1)]
    have h3 : decide (0 ≤ n) = false := decide_eq_false h1
    go_enter Tryz.func60, Tryz.ntmps60
    go_wp2
    go_ret
    exact ⟨rfl, rfl⟩
theorem rcValid_yes {n : Int} (w : World) (h : dayB n = true) :
    Calls Tryz.prog 60 #[.int .i64 n] w fun e w' => e = .returned (.bool true) ∧ w = w' := by
  have := rcValid_any n w; rw [h] at this; exact this
theorem rcValid_no {n : Int} (w : World) (h : dayB n = false) :
    Calls Tryz.prog 60 #[.int .i64 n] w fun e w' => e = .returned (.bool false) ∧ w = w' := by
  have := rcValid_any n w; rw [h] at this; exact this

theorem rcDate_yes (d : Int) (w : World) (h : dayB d = true) :
    Calls Tryz.prog 61 #[.int .i64 d] w fun e w' => e = .returned (.tuple #[.int .i64 (d / 360), .int .i64 (d % 360 / 30 + 1), .int .i64 (d % 30 + 1)]) ∧ w = w' := by
  obtain ⟨h0, h1⟩ := dayB_true.1 h
  have H := Lib.hid h
  clear h
  go_enter Tryz.func61, Tryz.ntmps61
  go_wp2_with (go_at_call 60; refine (rcValid_yes _ H.out).mono ?_; rintro e w' ⟨rfl, rfl⟩)
  go_ret3
  exact ⟨rfl, rfl⟩
set_option maxHeartbeats 400000 in
theorem rcText_any (d y m k : Nat) (w : World) (hd : d ≤ 36000) (hy : d / 360 = y) (hm : d % 360 / 30 + 1 = m) (hk : d % 30 + 1 = k) (hi : ItoaAt w y) :
    Calls Tryz.prog 43 #[.int .i64 (d : Int)] w fun e w' => e = .returned (.string (textB y m k)) ∧ Below w.heap.size w w' := by
  have hm1 : m < 100 := by omega
  have hk1 : k < 100 := by omega
  have HV := Lib.hid (rcValid_yes w (dayB_true.2 ⟨by omega, by omega⟩ : dayB (d : Int) = true))
  have hD := rcDate_yes (d : Int) w (dayB_true.2 ⟨by omega, by omega⟩)
  rw [show (d : Int) / 360 = (y : Int) by omega, show (d : Int) % 360 / 30 + 1 = (m : Int) by omega, show (d : Int) % 30 + 1 = (k : Int) by omega] at hD
  have HD := Lib.hid hD
  have HI := Lib.hid (hi w (Below.refl _ _))
  have hsy := decB_size y (by omega)
  have hsm := twoB_size m
  have hsk := twoB_size k
  have hC := fun (W : World) => rctwo_any m W hm1
  have hC' := fun (W : World) => rctwo_any k W hk1
  have HC := Lib.hid hC
  have HC' := Lib.hid hC'
  clear hD hy hm hk hi hd hm1 hk1 hC hC'
  go_enter Tryz.func43, Tryz.ntmps43
  go_wp2_with fail
  refine (HV.out).mono ?_
  rintro e w' ⟨rfl, rfl⟩
  go_wp2_with fail
  refine (HD.out).mono ?_
  rintro e w' ⟨rfl, rfl⟩
  go_wp2_with fail
  refine (HI.out).mono ?_
  rintro e w1 ⟨rfl, hb1⟩
  go_wp2_with fail
  refine (HC.out _).mono ?_
  rintro e w2 ⟨rfl, hb2⟩
  go_wp2_with fail
  refine (HC'.out _).mono ?_
  rintro e w3 ⟨rfl, hb3⟩
  go_wp2_with fail
  go_ret
  exact ⟨rfl, (hb1.trans (hb2.mono hb1.size)).trans (hb3.mono (Nat.le_trans hb1.size hb2.size))⟩

end Go.Proofs.YtdgckdmgplpobaaGreatDoor

/- The contract of Parse of calendar's reference: the day with a text, and ErrSyntax for any other text; as for calendar.Parse. -/
namespace Go.Proofs.YtdgckdmgplpobaaGreatDoor
open Go.RowKit Go.Lib Go.Proofs

theorem rcText_day (d : Nat) (w : World) (h : d ≤ 36000) (hi : ItoaAt w (d / 360)) :
    Calls Tryz.prog 43 #[.int .i64 (d : Int)] w fun e w' => e = .returned (.string (dayText d)) ∧ Below w.heap.size w w' :=
  rcText_any d _ _ _ w h rfl rfl rfl hi

theorem lead_step (l : List UInt8) (k : Nat) (hk : k < l.length) (f m : Nat) : leadGo (l.drop k) (f + 1) m = if digitB l[k] = true then leadGo (l.drop (k + 1)) f (10 * m + (l[k].toNat - 48)) else m := by
  rw [List.drop_eq_getElem_cons hk]
  rfl
theorem lead_end (l : List UInt8) (k : Nat) (hk : l.length ≤ k) (f m : Nat) : leadGo (l.drop k) f m = m := by
  rw [List.drop_eq_nil_of_le hk]
  unfold leadGo
  rfl
theorem lead_zero (l : List UInt8) (m : Nat) : leadGo l 0 m = m := by
  unfold leadGo
  split
  · rename_i h; cases h
  · rfl

theorem pow_small {k : Nat} (h : k < 4) : 10 ^ k ≤ 1000 := by
  have : k = 0 ∨ k = 1 ∨ k = 2 ∨ k = 3 := by omega
  rcases this with rfl | rfl | rfl | rfl <;> decide

set_option maxRecDepth 100000 in
set_option maxHeartbeats 4000000 in
theorem rcParse_any (s : ByteArray) (p q : Int) (h : ParseIs s p q) (w : World) (hL : Lay w) (hs : s.size ≤ 1000000) :
    Calls Tryz.prog 49 #[.string s] w fun e w' => e = .returned (.tuple #[.int .i64 p, .int .i64 q]) ∧ Below w.heap.size w w' := by
  obtain ⟨N, hN⟩ : ∃ N, N = leadGo s.data.toList 4 0 := ⟨_, rfl⟩
  have hlen : s.data.toList.length = s.size := (size_eq s).symm
  have HLEN := Lib.hid hlen
  have HN := Lib.hid hN
  have HL := Lib.hid hL
  have H := Lib.hid h
  clear hN hL h hlen
  go_enter Tryz.func49, Tryz.ntmps49
  go_wp2_with fail
  go_loop [4, 5] (fun n i => ∃ k m : Nat, i = .int .i64 k ∧ n = .int .i64 m ∧ k ≤ 4 ∧ k ≤ s.size ∧ Hid (leadGo (s.data.toList.drop k) (4 - k) m = N) ∧ Hid (m < 10 ^ k)) (fun _ i => 4 - (RowKit.intOf i).toNat)
  case atStart => exact ⟨0, 0, rfl, rfl, by omega, by omega, Lib.hid (by rw [HN.out]; rfl), Lib.hid (by decide)⟩
  case round =>
    obtain ⟨k, m, rfl, rfl, hk4, hks, HG, HM⟩ := hrel
    have hcase : (∃ h : k < s.size, k < 4 ∧ 48 ≤ (s[k].toNat : Int) ∧ (s[k].toNat : Int) ≤ 57) ∨ (4 ≤ k ∧ k < s.size ∧ m = N) ∨ (s.size ≤ k ∧ m = N) ∨ (∃ h : k < s.size, k < 4 ∧ (s[k].toNat : Int) < 48 ∧ m = N) ∨ (∃ h : k < s.size, k < 4 ∧ 48 ≤ (s[k].toNat : Int) ∧ 57 < (s[k].toNat : Int) ∧ m = N) := by
      have hg := HG.out
      by_cases h4 : 4 ≤ k
      · have hm : m = N := by rw [show 4 - k = 0 by omega, lead_zero] at hg; exact hg
        by_cases hsz : k < s.size
        · exact Or.inr (Or.inl ⟨h4, hsz, hm⟩)
        · exact Or.inr (Or.inr (Or.inl ⟨by omega, hm⟩))
      · by_cases hsz : k < s.size
        · have hl : k < s.data.toList.length := by rw [HLEN.out]; exact hsz
          rw [show 4 - k = (3 - k) + 1 by omega, lead_step _ k hl] at hg
          have hc : s.data.toList[k] = s[k] := rfl
          by_cases h1 : 48 ≤ (s[k].toNat : Int)
          · by_cases h2 : (s[k].toNat : Int) ≤ 57
            · exact Or.inl ⟨hsz, by omega, h1, h2⟩
            · refine Or.inr (Or.inr (Or.inr (Or.inr ⟨hsz, by omega, h1, by omega, ?_⟩)))
              rw [if_neg (by rw [hc]; unfold digitB; simp; omega)] at hg; exact hg
          · refine Or.inr (Or.inr (Or.inr (Or.inl ⟨hsz, by omega, by omega, ?_⟩)))
            rw [if_neg (by rw [hc]; unfold digitB; simp; omega)] at hg; exact hg
        · refine Or.inr (Or.inr (Or.inl ⟨by omega, ?_⟩))
          rw [lead_end _ _ (by rw [HLEN.out]; omega)] at hg; exact hg
    rcases hcase with ⟨hsz, hlt4, h1, h2⟩ | hex
    · have hm1 : m ≤ 1000 := by have := HM.out; have := pow_small hlt4; omega
      go_wp2_with fail
      go_round
      case rel =>
        refine ⟨k + 1, 10 * m + (s[k].toNat - 48), by go_num, ?_, by omega, by omega, Lib.hid ?_, Lib.hid ?_⟩
        · have e : (s[k].toNat : Int) - 48 = ((s[k].toNat - 48 : Nat) : Int) := by omega
          first | go_num | (congr 1; omega) | (simp; omega)
        · have hg := HG.out
          have hl : k < s.data.toList.length := by rw [HLEN.out]; exact hsz
          rw [show 4 - k = (4 - (k + 1)) + 1 by omega, lead_step _ k hl] at hg
          have hc : s.data.toList[k] = s[k] := rfl
          rw [if_pos (by rw [hc]; unfold digitB; simp; omega), hc] at hg
          exact hg
        · have := HM.out
          rw [Nat.pow_succ]
          omega
      case measure => simp [RowKit.intOf]; omega
    · have hmN : m = N := by
        rcases hex with ⟨_, _, h⟩ | ⟨_, h⟩ | ⟨_, _, _, h⟩ | ⟨_, _, _, _, h⟩ <;> exact h
      have hm4 : m < 10000 := by
        have h1 := HM.out
        have h2 : 10 ^ k ≤ 10 ^ 4 := Nat.pow_le_pow_right (by omega) hk4
        omega
      have HMN := Lib.hid hmN
      clear hmN
      have HEX := Lib.hid hex
      clear hex
      rcases HEX.out with ⟨hx1, hx2, _⟩ | ⟨hx1, _⟩ | ⟨hx1, hx2, hx3, _⟩ | ⟨hx1, hx2, hx3, hx4, _⟩
      all_goals
        go_wp2_with fail
        go_loopw [6] (fun x wr => ∃ d : Nat, x = .int .i64 d ∧ 360 * m ≤ d ∧ d ≤ 360 * m + 360 ∧ Below w.heap.size w wr ∧ Hid (∀ e, 360 * m ≤ e → e < d → e ≤ 36000 → dayText e ≠ s)) (fun x _ => 360 * m + 360 - (RowKit.intOf x).toNat)
        case atStart => exact ⟨360 * m, by first | rfl | go_num, by omega, by omega, Below.refl _ _, Lib.hid fun e h1 h2 => by omega⟩
        case round =>
          obtain ⟨d, rfl, hd0, hd1, hbel, HD⟩ := hrel
          by_cases hv : d ≤ 36000
          · have HV := Lib.hid (dayB_true.2 ⟨by omega, by omega⟩ : dayB (d : Int) = true)
            by_cases hlt : d < 360 * m + 360
            · have HT := Lib.hid (rcText_day d wr hv ((HL.out.below hbel (Nat.le_refl _)).itoa d hv))
              by_cases he : dayText d = s
              · obtain ⟨rfl, rfl⟩ := H.out.hit hv he
                have heq := strEq_true he
                have HE := Lib.hid he
                clear he
                go_wp2_with fail
                refine (rcValid_yes _ HV.out).mono ?_
                rintro e w' ⟨rfl, rfl⟩
                go_wp2_with fail
                refine (HT.out).mono ?_
                rintro e w2 ⟨rfl, hb2⟩
                go_wp2_with fail
                go_ret2
                exact ⟨rfl, hbel.trans (hb2.mono hbel.size)⟩
              · have heq := strEq_false he
                have HE := Lib.hid he
                clear he
                go_wp2_with fail
                refine (rcValid_yes _ HV.out).mono ?_
                rintro e w' ⟨rfl, rfl⟩
                go_wp2_with fail
                refine (HT.out).mono ?_
                rintro e w2 ⟨rfl, hb2⟩
                go_wp2_with fail
                go_roundw
                case rel =>
                  refine ⟨d + 1, by go_num, by omega, by omega, hbel.trans (hb2.mono hbel.size), Lib.hid fun e h1 h2 h3 => ?_⟩
                  by_cases hed : e = d
                  · rw [hed]; exact HE.out
                  · exact HD.out e h1 (by omega) h3
                case measure => simp [RowKit.intOf]; omega
            · have hpq : p = 0 ∧ q = 4 := by
                rcases H.out with ⟨d', g1, g2, _⟩ | ⟨_, g1, g2⟩
                · have hld := lead_day d' g1
                  rw [g2, ← HN.out, ← HMN.out] at hld
                  exact absurd g2 (HD.out d' (by omega) (by omega) g1)
                · exact ⟨g1, g2⟩
              obtain ⟨rfl, rfl⟩ := hpq
              go_wp2_with fail
              refine (rcValid_yes _ HV.out).mono ?_
              rintro e w' ⟨rfl, rfl⟩
              go_wp2_with fail
              go_ret2
              exact ⟨rfl, hbel⟩
          · have HV := Lib.hid (dayB_false.2 (by omega) : dayB (d : Int) = false)
            have hpq : p = 0 ∧ q = 4 := by
              rcases H.out with ⟨d', g1, g2, _⟩ | ⟨_, g1, g2⟩
              · have hld := lead_day d' g1
                rw [g2, ← HN.out, ← HMN.out] at hld
                exact absurd g2 (HD.out d' (by omega) (by omega) g1)
              · exact ⟨g1, g2⟩
            obtain ⟨rfl, rfl⟩ := hpq
            go_wp2_with fail
            refine (rcValid_no _ HV.out).mono ?_
            rintro e w' ⟨rfl, rfl⟩
            go_wp2_with fail
            go_ret2
            exact ⟨rfl, hbel⟩

end Go.Proofs.YtdgckdmgplpobaaGreatDoor

/- What the walks of the reference's Text need of days and numbers. -/
namespace Go.Proofs.YtdgckdmgplpobaaGreatDoor
open Go.RowKit Go.Lib Go.Proofs

theorem numOr_size (n : Int) (w : ByteArray) (hw : w.size ≤ 21) (h0 : -9223372036854775808 ≤ n) (h1 : n ≤ 9223372036854775807) : (numOr n w).size ≤ 21 := by
  unfold numOr
  split
  · exact hw
  · exact itoaT_size n h0 h1
theorem dayT_small (d : Int) : (dayT d).size ≤ 100000 := dayT_size d

theorem rcText_dayT (d : Int) (h0 : 0 ≤ d) (h1 : d ≤ 36000) (w : World) (hL : Lay w) : Calls Tryz.prog 43 #[.int .i64 d] w fun e w' => e = .returned (.string (dayT d)) ∧ Below w.heap.size w w' := by
  obtain ⟨n, rfl⟩ : ∃ n : Nat, d = n := ⟨d.toNat, by omega⟩
  have hn : n ≤ 36000 := by omega
  have := rcText_day n w hn (hL.itoa n hn)
  unfold dayT
  rw [if_pos (dayB_true.2 ⟨by omega, by omega⟩)]
  exact this

theorem rcParse_day (s : ByteArray) (w : World) (hL : Lay w) (hs : s.size ≤ 1000000) : Calls Tryz.prog 49 #[.string s] w fun e w' => (∃ q, e = .returned (.tuple #[.int .i64 (dayI' s), .int .i64 q])) ∧ Below w.heap.size w w' := by
  obtain ⟨p, q, hpq, h1, _⟩ := parse_is s
  rw [h1]
  exact (rcParse_any s p q hpq w hL hs).mono fun e w' h => ⟨⟨q, h.1⟩, h.2⟩

end Go.Proofs.YtdgckdmgplpobaaGreatDoor
