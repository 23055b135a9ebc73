/- Contracts of classification.within and classification.number: the number from 1 to 99 that a word writes, without zeros in front; for words of up to 10^9 bytes. -/
import Derived.Test.YtebgfbcojhmdlaaDoorWords
namespace Go.Proofs.YtebgfbcojhmdlaaDoor
open Go.RowKit Go.Lib Go.Proofs

set_option maxHeartbeats 400000 in
theorem clwithin_any (n lo hi : Int) (w : World) :
    Calls Tryd.prog 45 #[.int .i64 n, .int .i64 lo, .int .i64 hi] w fun e w' => e = .returned (.bool (inB n lo hi)) ∧ w = w' := by
  by_cases h1 : lo ≤ n
  · by_cases h2 : n ≤ hi
    · have h : inB n lo hi = true := inB_true.2 ⟨h1, h2⟩
      rw [h]; clear h
      go_enter Tryd.func45, Tryd.ntmps45
      go_wp2
      go_ret
      exact ⟨rfl, rfl⟩
    · have h : inB n lo hi = false := inB_false.2 (fun q => h2 q.2)
      rw [h]; clear h
      go_enter Tryd.func45, Tryd.ntmps45
      go_wp2
      go_ret
      exact ⟨rfl, rfl⟩
  · have h : inB n lo hi = false := inB_false.2 (fun q => h1 q.1)
    rw [h]; clear h
    go_enter Tryd.func45, Tryd.ntmps45
    go_wp2
    go_ret
    exact ⟨rfl, rfl⟩

theorem clwithin_yes {n lo hi : Int} (w : World) (h : inB n lo hi = true) :
    Calls Tryd.prog 45 #[.int .i64 n, .int .i64 lo, .int .i64 hi] w fun e w' => e = .returned (.bool true) ∧ w = w' := by
  have := clwithin_any n lo hi w; rw [h] at this; exact this
theorem clwithin_no {n lo hi : Int} (w : World) (h : inB n lo hi = false) :
    Calls Tryd.prog 45 #[.int .i64 n, .int .i64 lo, .int .i64 hi] w fun e w' => e = .returned (.bool false) ∧ w = w' := by
  have := clwithin_any n lo hi w; rw [h] at this; exact this

/-- The number from 1 to 99 that a word writes. -/
def numW (l : List UInt8) : Option Nat := (List.range 100).find? fun v => decide (1 ≤ v) && decide (decDigits v = l)

theorem dec_inj {a b : Nat} (ha : a < 1000) (hb : b < 1000) (h : decDigits a = decDigits b) : a = b := by
  have h1 := atoi_dec a ha
  rw [h, atoi_dec b hb] at h1
  injection h1 with h1
  omega

theorem numW_some {l : List UInt8} {v : Nat} : numW l = some v ↔ (1 ≤ v ∧ v ≤ 99) ∧ decDigits v = l := by
  constructor
  · intro h
    have h1 := List.find?_some h
    have h2 := List.mem_of_find?_eq_some h
    simp only [Bool.and_eq_true, decide_eq_true_eq] at h1
    have := List.mem_range.1 h2
    exact ⟨⟨h1.1, by omega⟩, h1.2⟩
  · rintro ⟨⟨h1, h2⟩, h3⟩
    cases hf : numW l with
    | none =>
      have := List.find?_eq_none.1 hf v (List.mem_range.2 (by omega))
      simp [h1, h3] at this
    | some u =>
      have g1 := List.find?_some hf
      have g2 := List.mem_range.1 (List.mem_of_find?_eq_some hf)
      simp only [Bool.and_eq_true, decide_eq_true_eq] at g1
      rw [dec_inj (by omega) (by omega) (g1.2.trans h3.symm)]

theorem decB_list (v : Nat) : (decB v).data.toList = decDigits v := by simp [decB]

/-- What number returns. -/
def NumPost (w : World) (r : Option Nat) (e : Ending) (w' : World) : Prop :=
  (match r with
    | some v => e = .returned (.tuple #[.int .i64 (v : Int), .bool true])
    | none => e = .returned (.tuple #[.int .i64 0, .bool false])) ∧ Below w.heap.size w w'

set_option maxHeartbeats 2000000 in
theorem clnumber_any (s : ByteArray) (w : World) (hL : Lay w) (hs : s.size ≤ 1000000) :
    Calls Tryd.prog 39 #[.string s] w (NumPost w (numW s.data.toList)) := by
  have dec : (∃ v, atoiAll s.data.toList = .ok v) ∨ ∀ v, atoiAll s.data.toList ≠ .ok v := by
    by_cases h : ∃ v, atoiAll s.data.toList = .ok v
    · exact Or.inl h
    · exact Or.inr fun v hv => h ⟨v, hv⟩
  rcases dec with ⟨v, hv⟩ | hv
  · have HA := Lib.hid (atoi_ok s v w hs hv)
    by_cases hr : 1 ≤ v ∧ v ≤ 99
    · obtain ⟨k, rfl⟩ : ∃ k : Nat, v = k := ⟨v.toNat, by omega⟩
      have HI := Lib.hid (fun W => itoa_small k W (by omega))
      have HW := Lib.hid (fun W => clwithin_yes (lo := 1) (hi := 99) W (inB_true.2 hr))
      by_cases he : decB k = s
      · have hn : numW s.data.toList = some k := numW_some.2 ⟨by omega, by rw [← he, decB_list]⟩
        have h1 := strEq_true he
        have h2 : (!((decB k).toList == s.toList)) = false := by rw [h1]; rfl
        rw [hn]
        clear hv hr he hn hL
        go_enter Tryd.func39, Tryd.ntmps39
        go_wp2_with fail
        refine (HA.out).mono ?_
        rintro e w1 ⟨rfl, hb⟩
        have HB := Lib.hid hb
        clear hb
        go_wp2_with fail
        refine (HW.out _).mono ?_
        rintro e w2 ⟨rfl, rfl⟩
        go_wp2_with fail
        refine (HI.out _).mono ?_
        rintro e w2 ⟨rfl, rfl⟩
        go_wp2_with fail
        go_ret2
        exact ⟨rfl, HB.out⟩
      · have hn : numW s.data.toList = none := by
          cases hf : numW s.data.toList with
          | none => rfl
          | some u =>
            obtain ⟨h1, h2⟩ := numW_some.1 hf
            rw [← h2, atoi_dec u (by omega)] at hv
            injection hv with hv
            have : u = k := by omega
            subst this
            exact absurd (bytes_ext (by rw [decB_list, h2])) he
        have h1 := strEq_false he
        have h2 : (!((decB k).toList == s.toList)) = true := by rw [h1]; rfl
        rw [hn]
        clear hv hr he hn hL
        go_enter Tryd.func39, Tryd.ntmps39
        go_wp2_with fail
        refine (HA.out).mono ?_
        rintro e w1 ⟨rfl, hb⟩
        have HB := Lib.hid hb
        clear hb
        go_wp2_with fail
        refine (HW.out _).mono ?_
        rintro e w2 ⟨rfl, rfl⟩
        go_wp2_with fail
        refine (HI.out _).mono ?_
        rintro e w2 ⟨rfl, rfl⟩
        go_wp2_with fail
        go_ret2
        exact ⟨rfl, HB.out⟩
    · have HW := Lib.hid (fun W => clwithin_no (lo := 1) (hi := 99) W (inB_false.2 hr))
      have hn : numW s.data.toList = none := by
        cases hf : numW s.data.toList with
        | none => rfl
        | some u =>
          obtain ⟨h1, h2⟩ := numW_some.1 hf
          rw [← h2, atoi_dec u (by omega)] at hv
          injection hv with hv
          exact absurd ⟨by omega, by omega⟩ hr
      rw [hn]
      clear hv hr hn hL
      go_enter Tryd.func39, Tryd.ntmps39
      go_wp2_with fail
      refine (HA.out).mono ?_
      rintro e w1 ⟨rfl, hb⟩
      have HB := Lib.hid hb
      clear hb
      go_wp2_with fail
      refine (HW.out _).mono ?_
      rintro e w2 ⟨rfl, rfl⟩
      go_wp2_with fail
      go_ret2
      exact ⟨rfl, HB.out⟩
  · have hn : numW s.data.toList = none := by
      cases hf : numW s.data.toList with
      | none => rfl
      | some u =>
        obtain ⟨h1, h2⟩ := numW_some.1 hf
        exact absurd (by rw [← h2]; exact atoi_dec u (by omega)) (hv u)
    have HA := Lib.hid (atoi_bad s w hL hs hv)
    rw [hn]
    clear hv hn hL
    go_enter Tryd.func39, Tryd.ntmps39
    go_wp2_with fail
    refine (HA.out).mono ?_
    rintro e w1 ⟨v, T, N, rfl, hb⟩
    have HB := Lib.hid hb
    clear hb
    go_wp2_with fail
    go_ret2
    exact ⟨rfl, HB.out⟩

end Go.Proofs.YtebgfbcojhmdlaaDoor
