/- The contract of money.Parts where it divides: an amount, 1 to 200 weights within their range, not all of them 0. -/
import Derived.Test.YtbndcjbnpgdpjaaDivide
namespace Go.Proofs.Ytbndcjbnpgdpjaa
open Go.RowKit Go.Sort Go.Shelf Go.Lib Go.Proofs

set_option maxHeartbeats 400000 in
theorem PartsC_any (x : Int) (w : World) :
    Calls Try.prog 30 #[.int .i64 x] w fun e w' => e = .returned (.bool (!inB x 0 1000000)) ∧ w = w' := by
  cases h : inB x 0 1000000 with
  | true =>
    have hc := weight_yes (n := x) w h
    have HC := Lib.hid hc
    clear hc h
    go_enter Try.func30, Try.ntmps30
    go_wp2_with (go_at_call 28; refine (HC.out).mono ?_; rintro e w' ⟨rfl, rfl⟩)
    go_ret
    exact ⟨rfl, rfl⟩
  | false =>
    have hc := weight_no (n := x) w h
    have HC := Lib.hid hc
    clear hc h
    go_enter Try.func30, Try.ntmps30
    go_wp2_with (go_at_call 28; refine (HC.out).mono ?_; rintro e w' ⟨rfl, rfl⟩)
    go_ret
    exact ⟨rfl, rfl⟩

set_option maxHeartbeats 400000 in
/-- No weight is out of its range: IndexFunc finds none. -/
theorem IndexFunc_none (ws : List Int) (bw ow cw : Nat) (w : World) (hlen : ws.length ≤ 4611686018427387904) (hw : ∀ x ∈ ws, 0 ≤ x ∧ x ≤ 1000000)
    (hc : ∀ i, i < ws.length → w.cell? ⟨bw, ow + i, none⟩ = some (.int .i64 (ws.getD i 0))) :
    Calls Try.prog 32 #[.slice (some ⟨bw, ow, none⟩) ws.length cw, .func (.func 30) #[] #[]] w fun e w' => e = .returned (.int .i64 (-1)) ∧ w = w' := by
  obtain ⟨n, hn⟩ : ∃ n, n = ws.length := ⟨_, rfl⟩
  have hgood : ∀ i, i < n → inB (ws.getD i 0) 0 1000000 = true := fun i h => by
    have h' : i < ws.length := by omega
    have e : ws.getD i 0 = ws[i] := by simp [List.getD, List.getElem?_eq_getElem h']
    rw [e]; exact inB_true.2 (hw _ (List.getElem_mem h'))
  have HG := Lib.hid hgood
  have hcc : ∀ i, i < n → w.cell? ⟨bw, ow + i, none⟩ = some (.int .i64 (ws.getD i 0)) := fun i h => hc i (by omega)
  have HC := Lib.hid hcc
  have hn1 : n ≤ 4611686018427387904 := by omega
  rw [← hn]
  clear hgood hw hc hcc hlen hn
  go_enter Try.func32, Try.ntmps32
  go_wp2
  go_loop [8] (fun c => ∃ k : Nat, k ≤ n ∧ c = .int .i64 k) (fun c => n - (intOf c).toNat)
  case atStart => exact ⟨0, Nat.zero_le _, rfl⟩
  case round =>
    obtain ⟨k, hk, rfl⟩ := hrel
    by_cases hlt : k < n
    · obtain ⟨x, hx⟩ : ∃ x, x = ws.getD k 0 := ⟨_, rfl⟩
      have hcell := HC.out k hlt
      have hcon := PartsC_any x w
      rw [hx, HG.out k hlt, ← hx] at hcon
      rw [← hx] at hcell
      have HCON := Lib.hid hcon
      clear hcon hx
      go_wp2_with (go_at_call 30; refine (HCON.out).mono ?_; rintro e w' ⟨rfl, rfl⟩)
      go_round
      case rel => exact ⟨k + 1, by omega, by go_num⟩
      case measure => simp [intOf]; omega
    · go_wp2
      go_ret
      exact ⟨rfl, rfl⟩

set_option maxHeartbeats 400000 in
theorem ContainsFunc_none (ws : List Int) (bw ow cw : Nat) (w : World) (hlen : ws.length ≤ 4611686018427387904) (hw : ∀ x ∈ ws, 0 ≤ x ∧ x ≤ 1000000)
    (hc : ∀ i, i < ws.length → w.cell? ⟨bw, ow + i, none⟩ = some (.int .i64 (ws.getD i 0))) :
    Calls Try.prog 29 #[.slice (some ⟨bw, ow, none⟩) ws.length cw, .func (.func 30) #[] #[]] w fun e w' => e = .returned (.bool false) ∧ w = w' := by
  have HC := Lib.hid (IndexFunc_none ws bw ow cw w hlen hw hc)
  clear hw hc
  go_enter Try.func29, Try.ntmps29
  go_wp2_with (go_at_call 32; refine (HC.out).mono ?_; rintro e w' ⟨rfl, rfl⟩)
  go_ret
  exact ⟨rfl, rfl⟩

set_option maxHeartbeats 1000000 in
theorem Parts_ok (T S : Int) (ws : List Int) (hlen : ws.length ≤ 200) (hpos : 0 < ws.length) (bw ow cw : Nat) (w : World) (hT : inB T 0 1000000000000 = true) (hw : ∀ x ∈ ws, 0 ≤ x ∧ x ≤ 1000000) (hS : sumI ws = S) (hS0 : 0 < S) (hbw : bw < w.heap.size)
    (hc : ∀ i, i < ws.length → w.cell? ⟨bw, ow + i, none⟩ = some (.int .i64 (ws.getD i 0))) :
    Calls Try.prog 23 #[.int .i64 T, .slice (some ⟨bw, ow, none⟩) ws.length cw] w fun e w' => ∃ P, e = .returned (.tuple #[.slice (some ⟨P, 0, none⟩) ws.length ws.length, .int .i64 0]) ∧
      w'.ownsRow w.heap.size 3 1 (.slice (some ⟨P, 0, none⟩) ws.length ws.length) ws.length (cellsI (partsI T S ws)) ∧ Below w.heap.size w w' := by
  obtain ⟨hT0, hT1⟩ := inB_true.1 hT
  have HD := Lib.hid (divide_any T S ws hlen hpos bw ow cw w hT0 hT1 hw hS hS0 hbw hc)
  have HF := Lib.hid (ContainsFunc_none ws bw ow cw w (by omega) hw hc)
  have HV := Lib.hid (Valid_yes w hT)
  have hpre : ∀ k, 0 ≤ sumI (ws.take k) ∧ sumI (ws.take k) ≤ 200000000 := fun k => by
    have h1 := sumI_nonneg (l := ws.take k) fun x hx => (hw x (List.mem_of_mem_take hx)).1
    have h2 := sumI_take_le (l := ws) (fun x hx => (hw x hx).1) k
    have h3 := sumI_le (l := ws) (c := 1000000) fun x hx => (hw x hx).2
    omega
  have HP := Lib.hid hpre
  obtain ⟨n, hn⟩ : ∃ n, n = ws.length := ⟨_, rfl⟩
  have hn20 : n ≤ 200 := by omega
  have hn0 : 0 < n := by omega
  have hwd : ∀ i, i < n → 0 ≤ ws.getD i 0 ∧ ws.getD i 0 ≤ 1000000 := fun i h => by
    have h' : i < ws.length := by omega
    have e : ws.getD i 0 = ws[i] := by simp [List.getD, List.getElem?_eq_getElem h']
    rw [e]; exact hw _ (List.getElem_mem h')
  have HWD := Lib.hid hwd
  have hcc : ∀ i, i < n → w.cell? ⟨bw, ow + i, none⟩ = some (.int .i64 (ws.getD i 0)) := fun i h => hc i (by omega)
  have HC := Lib.hid hcc
  have HN := Lib.hid hn
  have HS := Lib.hid hS
  rw [← hn] at HD HF ⊢
  clear hpre hwd hcc hc hn hS hw hlen hpos hT
  go_enter Try.func23, Try.ntmps23
  go_wp2_with (first | (go_at_call 16; refine (HV.out).mono ?_; rintro e w' ⟨rfl, rfl⟩) | (go_at_call 29; refine (HF.out).mono ?_; rintro e w' ⟨rfl, rfl⟩))
  go_loop [6, 21] (fun s c => ∃ k : Nat, k ≤ n ∧ c = .int .i64 k ∧ s = .int .i64 (sumI (ws.take k))) (fun _ c => n - (intOf c).toNat)
  case atStart => exact ⟨0, Nat.zero_le _, rfl, by simp [sumI]⟩
  case round =>
    obtain ⟨k, hk, rfl, rfl⟩ := hrel
    by_cases hlt : k < n
    · obtain ⟨x, hx⟩ : ∃ x, x = ws.getD k 0 := ⟨_, rfl⟩
      have hcell := HC.out k hlt
      obtain ⟨hx0, hx1⟩ := HWD.out k hlt
      rw [← hx] at hcell hx0 hx1
      obtain ⟨hs0, hs1⟩ := HP.out k
      have HX := Lib.hid hx
      clear hx
      go_wp2
      go_round
      case rel =>
        refine ⟨k + 1, by omega, by go_num, ?_⟩
        rw [sumI_take_succ _ k (by have := HN.out; omega), ← HX.out]
      case measure => simp [intOf]; omega
    · obtain rfl : k = n := by omega
      have hfull : sumI (ws.take k) = S := by rw [List.take_of_length_le (by have := HN.out; omega)]; exact HS.out
      rw [hfull]
      clear hfull
      have hne : (S == 0) = false := by simp; omega
      go_wp2_with (go_at_call 31; refine (HD.out).mono ?_; rintro e w' ⟨P, rfl, hown, hbel⟩)
      go_ret2
      exact ⟨P, rfl, hown, hbel⟩

end Go.Proofs.Ytbndcjbnpgdpjaa
