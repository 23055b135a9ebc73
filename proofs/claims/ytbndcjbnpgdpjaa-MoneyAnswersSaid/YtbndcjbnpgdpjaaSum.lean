/- Contracts of money.Add and money.Sum and of their references, for every number and every list. -/
import Derived.Test.YtbndcjbnpgdpjaaInts
namespace Go.Proofs.Ytbndcjbnpgdpjaa
open Go.RowKit Go.Sort Go.Shelf Go.Lib Go.Proofs

/-- n is a total. -/
def tot (n : Int) : Bool := inB n (-1000000000000000) 1000000000000000

/-- Two totals whose sum is a total. -/
def addOk (a b : Int) : Bool := tot a && tot b && tot (a + b)

theorem tot_iff {n : Int} : tot n = true ↔ -1000000000000000 ≤ n ∧ n ≤ 1000000000000000 := inB_true
theorem tot_false {n : Int} : tot n = false ↔ ¬ (-1000000000000000 ≤ n ∧ n ≤ 1000000000000000) := inB_false

theorem Total_yes {n : Int} (w : World) (h : tot n = true) : Calls Try.prog 18 #[.int .i64 n] w fun e w' => e = .returned (.bool true) ∧ w = w' := by
  have := Total_any n w
  rw [show inB n (-1000000000000000) 1000000000000000 = true from h] at this
  exact this
theorem Total_no {n : Int} (w : World) (h : tot n = false) : Calls Try.prog 18 #[.int .i64 n] w fun e w' => e = .returned (.bool false) ∧ w = w' := by
  have := Total_any n w
  rw [show inB n (-1000000000000000) 1000000000000000 = false from h] at this
  exact this

set_option maxHeartbeats 400000 in
theorem Add_yes (a b : Int) (w : World) (h : addOk a b = true) : Calls Try.prog 10 #[.int .i64 a, .int .i64 b] w fun e w' => e = .returned (.tuple #[.int .i64 (a + b), .int .i64 0]) ∧ w = w' := by
  unfold addOk at h
  simp only [Bool.and_eq_true] at h
  obtain ⟨⟨h1, h2⟩, h3⟩ := h
  obtain ⟨a0, a1⟩ := tot_iff.1 h1
  obtain ⟨b0, b1⟩ := tot_iff.1 h2
  have H1 := Lib.hid (Total_yes w h1)
  have H2 := Lib.hid (Total_yes w h2)
  have H3 := Lib.hid (Total_yes w h3)
  clear h1 h2 h3
  go_enter Try.func10, Try.ntmps10
  go_wp2_with fail
  refine (H1.out).mono ?_
  rintro e w' ⟨rfl, rfl⟩
  go_wp2_with fail
  refine (H2.out).mono ?_
  rintro e w' ⟨rfl, rfl⟩
  go_wp2_with fail
  refine (H3.out).mono ?_
  rintro e w' ⟨rfl, rfl⟩
  go_wp2
  go_ret2
  exact ⟨rfl, rfl⟩

set_option maxHeartbeats 400000 in
theorem Add_no (a b : Int) (w : World) (h : addOk a b = false) : Calls Try.prog 10 #[.int .i64 a, .int .i64 b] w fun e w' => e = .returned (.tuple #[.int .i64 0, .int .i64 2]) ∧ w = w' := by
  cases h1 : tot a with
  | false =>
    have H1 := Lib.hid (Total_no w h1)
    clear h h1
    go_enter Try.func10, Try.ntmps10
    go_wp2_with (go_at_call 18; refine (H1.out).mono ?_; rintro e w' ⟨rfl, rfl⟩)
    go_ret2
    exact ⟨rfl, rfl⟩
  | true =>
    have H1 := Lib.hid (Total_yes w h1)
    cases h2 : tot b with
    | false =>
      have H2 := Lib.hid (Total_no w h2)
      clear h h1 h2
      go_enter Try.func10, Try.ntmps10
      go_wp2_with fail
      refine (H1.out).mono ?_
      rintro e w' ⟨rfl, rfl⟩
      go_wp2_with (go_at_call 18; refine (H2.out).mono ?_; rintro e w' ⟨rfl, rfl⟩)
      go_ret2
      exact ⟨rfl, rfl⟩
    | true =>
      have H2 := Lib.hid (Total_yes w h2)
      have h3 : tot (a + b) = false := by unfold addOk at h; rw [h1, h2] at h; simpa using h
      obtain ⟨a0, a1⟩ := tot_iff.1 h1
      obtain ⟨b0, b1⟩ := tot_iff.1 h2
      have H3 := Lib.hid (Total_no w h3)
      clear h h1 h2 h3
      go_enter Try.func10, Try.ntmps10
      go_wp2_with fail
      refine (H1.out).mono ?_
      rintro e w' ⟨rfl, rfl⟩
      go_wp2_with fail
      refine (H2.out).mono ?_
      rintro e w' ⟨rfl, rfl⟩
      go_wp2_with fail
      refine (H3.out).mono ?_
      rintro e w' ⟨rfl, rfl⟩
      go_wp2
      go_ret2
      exact ⟨rfl, rfl⟩

/-- The sum of a list, added from the first one on, and the error. -/
def sumTo : List Int → Int → Int × Int
  | [], acc => (acc, 0)
  | x :: l, acc => if addOk acc x = true then sumTo l (acc + x) else (0, 2)

theorem sumTo_drop_yes (l : List Int) (k : Nat) (acc : Int) (hk : k < l.length) (h : addOk acc (l.getD k 0) = true) : sumTo (l.drop k) acc = sumTo (l.drop (k + 1)) (acc + l.getD k 0) := by
  rw [List.drop_eq_getElem_cons hk, sumTo, ← getD_eq hk, if_pos h]
theorem sumTo_drop_no (l : List Int) (k : Nat) (acc : Int) (hk : k < l.length) (h : addOk acc (l.getD k 0) = false) : sumTo (l.drop k) acc = (0, 2) := by
  rw [List.drop_eq_getElem_cons hk, sumTo, ← getD_eq hk, if_neg (by rw [h]; exact Bool.false_ne_true)]

set_option maxHeartbeats 1000000 in
theorem Sum_any (v : Value) (l : List Int) (w : World) (h : RowAt w v l) (hl : l.length ≤ 4611686018427387904) :
    Calls Try.prog 21 #[v] w fun e w' => e = .returned (.tuple #[.int .i64 (sumTo l 0).1, .int .i64 (sumTo l 0).2]) ∧ w = w' := by
  rcases h with ⟨rfl, ao, cap, rfl⟩ | ⟨b, o, cap, rfl, hb, hc⟩
  · go_enter Try.func21, Try.ntmps21
    go_wp2
    refine wp_loop_rounds 1 ?_
    rw [rounds_succ]
    go_wp2
    go_ret2
    exact ⟨rfl, rfl⟩
  · obtain ⟨n, hn⟩ : ∃ n, n = l.length := ⟨_, rfl⟩
    obtain ⟨r1, h1⟩ : ∃ r, r = (sumTo l 0).1 := ⟨_, rfl⟩
    obtain ⟨r2, h2⟩ : ∃ r, r = (sumTo l 0).2 := ⟨_, rfl⟩
    have hn1 : n ≤ 4611686018427387904 := by omega
    have HC := Lib.hid hc
    have HN := Lib.hid hn
    have H1 := Lib.hid h1
    have H2 := Lib.hid h2
    rw [← hn, ← h1, ← h2]
    clear hc hn h1 h2 hl
    go_enter Try.func21, Try.ntmps21
    go_wp2
    go_loop [4, 11] (fun s c => ∃ (k : Nat) (acc : Int), k ≤ n ∧ c = .int .i64 k ∧ s = .int .i64 acc ∧ Hid (sumTo (l.drop k) acc = sumTo l 0)) (fun _ c => n - (intOf c).toNat)
    case atStart => exact ⟨0, 0, Nat.zero_le _, rfl, rfl, Lib.hid rfl⟩
    case round =>
      obtain ⟨k, acc, hk, rfl, rfl, HS⟩ := hrel
      by_cases hlt : k < n
      · obtain ⟨x, hx⟩ : ∃ x, x = l.getD k 0 := ⟨_, rfl⟩
        have hcell := HC.out k (by have := HN.out; omega)
        rw [← hx] at hcell
        cases hok : addOk acc x with
        | true =>
          have HA := Lib.hid (Add_yes acc x w hok)
          have hs := sumTo_drop_yes l k acc (by have := HN.out; omega) (by rw [← hx]; exact hok)
          rw [← hx, HS.out] at hs
          have HS' := Lib.hid hs
          clear hx hok hs HS
          go_wp2_with (go_at_call 10; refine (HA.out).mono ?_; rintro e w' ⟨rfl, rfl⟩)
          go_round
          case rel => exact ⟨k + 1, acc + x, by omega, by go_num, rfl, Lib.hid HS'.out.symm⟩
          case measure => simp [intOf]; omega
        | false =>
          have HA := Lib.hid (Add_no acc x w hok)
          have hs := sumTo_drop_no l k acc (by have := HN.out; omega) (by rw [← hx]; exact hok)
          rw [HS.out] at hs
          have e1 : r1 = 0 := by rw [H1.out, hs]
          have e2 : r2 = 2 := by rw [H2.out, hs]
          subst e1
          subst e2
          clear hx hok hs
          go_wp2_with (go_at_call 10; refine (HA.out).mono ?_; rintro e w' ⟨rfl, rfl⟩)
          go_ret2
          exact ⟨rfl, rfl⟩
      · have hs := HS.out
        rw [List.drop_eq_nil_of_le (by have := HN.out; omega), sumTo] at hs
        have e1 : r1 = acc := by rw [H1.out, ← hs]
        have e2 : r2 = 0 := by rw [H2.out, ← hs]
        subst e1
        subst e2
        clear hs
        go_wp2
        go_ret2
        exact ⟨rfl, rfl⟩

/-- Where every sum on the way is a total, Sum is the plain sum. -/
theorem sumTo_plain : ∀ (l : List Int) (acc : Int), (∀ k, k ≤ l.length → tot (acc + sumI (l.take k)) = true) → (∀ x ∈ l, tot x = true) → sumTo l acc = (acc + sumI l, 0)
  | [], acc, _, _ => by simp [sumTo, sumI]
  | x :: l, acc, h, hx => by
    have h0 := h 0 (Nat.zero_le _)
    have h1 := h 1 (by simp)
    simp [sumI] at h0 h1
    have hok : addOk acc x = true := by
      unfold addOk
      rw [h0, h1, hx x (List.mem_cons_self ..)]
      rfl
    rw [sumTo, if_pos hok, sumTo_plain l (acc + x) (fun k hk => by
      have := h (k + 1) (by simp; omega)
      simpa [sumI, Int.add_assoc] using this) (fun y hy => hx y (List.mem_cons_of_mem _ hy))]
    simp [sumI, Int.add_assoc]

end Go.Proofs.Ytbndcjbnpgdpjaa
