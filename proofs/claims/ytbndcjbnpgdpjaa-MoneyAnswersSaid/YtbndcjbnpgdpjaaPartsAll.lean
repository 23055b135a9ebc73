/- Contracts of money.Parts and of its reference for every amount and every list of at most 1000 weights: both return the same list and the same error. -/
import Derived.Test.YtbndcjbnpgdpjaaRParts
import Derived.Test.YtbndcjbnpgdpjaaParts
namespace Go.Proofs.Ytbndcjbnpgdpjaa
open Go.RowKit Go.Sort Go.Shelf Go.Lib Go.Proofs

/-- Every weight is within its range. -/
def allW (ws : List Int) : Bool := ws.all fun x => inB x 0 1000000

theorem allW_true {ws : List Int} : allW ws = true ↔ ∀ x ∈ ws, 0 ≤ x ∧ x ≤ 1000000 := by
  unfold allW
  rw [List.all_eq_true]
  exact ⟨fun h x hx => inB_true.1 (h x hx), fun h x hx => inB_true.2 (h x hx)⟩

theorem allW_bad {ws : List Int} (h : allW ws = false) (hg : ∀ i, i < ws.length → inB (ws.getD i 0) 0 1000000 = true) : False := by
  have : allW ws = true := by
    rw [allW_true]
    intro x hx
    obtain ⟨i, hi, rfl⟩ := List.mem_iff_getElem.1 hx
    have := hg i hi
    rw [getD_eq hi] at this
    exact inB_true.1 this
  rw [h] at this
  cases this

/-- The error of Parts. -/
def partsErr (T : Int) (ws : List Int) : Int := if inB T 0 1000000000000 = false ∨ allW ws = false then 2 else if 200 < ws.length then 3 else if sumI ws = 0 then 1 else 0
/-- The parts, none with an error. -/
def partsOut (T : Int) (ws : List Int) : List Int := if partsErr T ws = 0 then partsI T (sumI ws) ws else []

/-- What both return. -/
def PartsPost (T : Int) (ws : List Int) (w : World) (e : Ending) (w' : World) : Prop := ∃ v, e = .returned (.tuple #[v, .int .i64 (partsErr T ws)]) ∧ RowAt w' v (partsOut T ws) ∧ Below w.heap.size w w'

theorem post_err {T : Int} {ws : List Int} {w : World} {k : Int} (hk : partsErr T ws = k) (h0 : k ≠ 0) : ∀ (e : Ending) (w' : World), (e = .returned (.tuple #[.slice none 0 0, .int .i64 k]) ∧ w = w') → PartsPost T ws w e w' := fun e w' ⟨he, hw⟩ => by
  subst hw
  subst hk
  refine ⟨_, he, ?_, Below.refl _ _⟩
  unfold partsOut
  rw [if_neg h0]
  exact Or.inl ⟨rfl, none, 0, rfl⟩

section money
set_option maxHeartbeats 400000 in
theorem IndexFunc_some (ws : List Int) (bw ow cw : Nat) (w : World) (hlen : ws.length ≤ 1000) (hbad : allW ws = false) (hc : ∀ i, i < ws.length → w.cell? ⟨bw, ow + i, none⟩ = some (.int .i64 (ws.getD i 0))) :
    Calls Try.prog 32 #[.slice (some ⟨bw, ow, none⟩) ws.length cw, .func (.func 30) #[] #[]] w fun e w' => ∃ r : Nat, e = .returned (.int .i64 (r : Int)) ∧ w = w' := by
  obtain ⟨n, hn⟩ : ∃ n, n = ws.length := ⟨_, rfl⟩
  have hcc : ∀ i, i < n → w.cell? ⟨bw, ow + i, none⟩ = some (.int .i64 (ws.getD i 0)) := fun i h => hc i (by omega)
  have HC := Lib.hid hcc
  have HBAD := Lib.hid hbad
  have HN := Lib.hid hn
  have hn1 : n ≤ 1000 := by omega
  rw [← hn]
  clear hbad hc hcc hlen hn
  go_enter Try.func32, Try.ntmps32
  go_wp2
  go_loop [8] (fun c => ∃ k : Nat, k ≤ n ∧ c = .int .i64 k ∧ Hid (∀ i, i < k → inB (ws.getD i 0) 0 1000000 = true)) (fun c => n - (intOf c).toNat)
  case atStart => exact ⟨0, Nat.zero_le _, rfl, Lib.hid fun i h => by omega⟩
  case round =>
    obtain ⟨k, hk, rfl, HG⟩ := hrel
    by_cases hlt : k < n
    · obtain ⟨x, hx⟩ : ∃ x, x = ws.getD k 0 := ⟨_, rfl⟩
      have hcell := HC.out k hlt
      have hcon := PartsC_any x w
      rw [← hx] at hcell
      have HX := Lib.hid hx
      cases hg : inB x 0 1000000 with
      | true =>
        rw [hg] at hcon
        have HCON := Lib.hid hcon
        have HGX := Lib.hid hg
        clear hcon hx hg
        go_wp2_with (go_at_call 30; refine (HCON.out).mono ?_; rintro e w' ⟨rfl, rfl⟩)
        go_round
        case rel =>
          refine ⟨k + 1, by omega, by go_num, Lib.hid fun i hi => ?_⟩
          by_cases e : i = k
          · subst e; rw [← HX.out]; exact HGX.out
          · exact HG.out i (by omega)
        case measure => simp [intOf]; omega
      | false =>
        rw [hg] at hcon
        have HCON := Lib.hid hcon
        clear hcon hx hg
        go_wp2_with (go_at_call 30; refine (HCON.out).mono ?_; rintro e w' ⟨rfl, rfl⟩)
        go_ret
        exact ⟨k, rfl, rfl⟩
    · exact (allW_bad HBAD.out fun i hi => HG.out i (by have := HN.out; omega)).elim

set_option maxHeartbeats 400000 in
theorem ContainsFunc_some (ws : List Int) (bw ow cw : Nat) (w : World) (hlen : ws.length ≤ 1000) (hbad : allW ws = false) (hc : ∀ i, i < ws.length → w.cell? ⟨bw, ow + i, none⟩ = some (.int .i64 (ws.getD i 0))) :
    Calls Try.prog 29 #[.slice (some ⟨bw, ow, none⟩) ws.length cw, .func (.func 30) #[] #[]] w fun e w' => e = .returned (.bool true) ∧ w = w' := by
  have HC := Lib.hid (IndexFunc_some ws bw ow cw w hlen hbad hc)
  clear hbad hc
  go_enter Try.func29, Try.ntmps29
  go_wp2_with fail
  refine (HC.out).mono ?_
  rintro e w' ⟨r, rfl, rfl⟩
  have hr : (0 : Int) ≤ (r : Int) := by omega
  go_wp2
  go_ret
  exact ⟨rfl, rfl⟩

set_option maxHeartbeats 400000 in
theorem ContainsFunc_nil (ao : Option Addr) (cap : Nat) (w : World) :
    Calls Try.prog 29 #[.slice ao 0 cap, .func (.func 30) #[] #[]] w fun e w' => e = .returned (.bool false) ∧ w = w' := by
  have hcon : Calls Try.prog 32 #[.slice ao 0 cap, .func (.func 30) #[] #[]] w fun e w' => e = .returned (.int .i64 (-1)) ∧ w = w' := by
    go_enter Try.func32, Try.ntmps32
    go_wp2
    refine wp_loop_rounds 1 ?_
    rw [rounds_succ]
    go_wp2
    go_ret
    exact ⟨rfl, rfl⟩
  have HC := Lib.hid hcon
  clear hcon
  go_enter Try.func29, Try.ntmps29
  go_wp2_with fail
  refine (HC.out).mono ?_
  rintro e w' ⟨rfl, rfl⟩
  go_wp2
  go_ret
  exact ⟨rfl, rfl⟩

set_option maxHeartbeats 400000 in
theorem Parts_amount (T : Int) (v : Value) (w : World) (hT : inB T 0 1000000000000 = false) :
    Calls Try.prog 23 #[.int .i64 T, v] w fun e w' => e = .returned (.tuple #[.slice none 0 0, .int .i64 2]) ∧ w = w' := by
  have HV := Lib.hid (Valid_no w hT)
  clear hT
  go_enter Try.func23, Try.ntmps23
  go_wp2_with (go_at_call 16; refine (HV.out).mono ?_; rintro e w' ⟨rfl, rfl⟩)
  go_ret2
  exact ⟨rfl, rfl⟩

set_option maxHeartbeats 400000 in
theorem Parts_weight (T : Int) (ws : List Int) (bw ow cw : Nat) (w : World) (hT : inB T 0 1000000000000 = true) (hlen : ws.length ≤ 1000) (hbad : allW ws = false) (hc : ∀ i, i < ws.length → w.cell? ⟨bw, ow + i, none⟩ = some (.int .i64 (ws.getD i 0))) :
    Calls Try.prog 23 #[.int .i64 T, .slice (some ⟨bw, ow, none⟩) ws.length cw] w fun e w' => e = .returned (.tuple #[.slice none 0 0, .int .i64 2]) ∧ w = w' := by
  have HV := Lib.hid (Valid_yes w hT)
  have HF := Lib.hid (ContainsFunc_some ws bw ow cw w hlen hbad hc)
  clear hT hbad hc
  go_enter Try.func23, Try.ntmps23
  go_wp2_with (first | (go_at_call 16; refine (HV.out).mono ?_; rintro e w' ⟨rfl, rfl⟩) | (go_at_call 29; refine (HF.out).mono ?_; rintro e w' ⟨rfl, rfl⟩))
  go_ret2
  exact ⟨rfl, rfl⟩

set_option maxHeartbeats 400000 in
theorem Parts_many (T : Int) (ws : List Int) (bw ow cw : Nat) (w : World) (hT : inB T 0 1000000000000 = true) (hlen : ws.length ≤ 1000) (hw : ∀ x ∈ ws, 0 ≤ x ∧ x ≤ 1000000) (hmany : 200 < ws.length) (hc : ∀ i, i < ws.length → w.cell? ⟨bw, ow + i, none⟩ = some (.int .i64 (ws.getD i 0))) :
    Calls Try.prog 23 #[.int .i64 T, .slice (some ⟨bw, ow, none⟩) ws.length cw] w fun e w' => e = .returned (.tuple #[.slice none 0 0, .int .i64 3]) ∧ w = w' := by
  have HV := Lib.hid (Valid_yes w hT)
  have HF := Lib.hid (ContainsFunc_none ws bw ow cw w (by omega) hw hc)
  have hz : (200 : Int) < (ws.length : Int) := by omega
  clear hT hw hc
  go_enter Try.func23, Try.ntmps23
  go_wp2_with (first | (go_at_call 16; refine (HV.out).mono ?_; rintro e w' ⟨rfl, rfl⟩) | (go_at_call 29; refine (HF.out).mono ?_; rintro e w' ⟨rfl, rfl⟩))
  go_ret2
  exact ⟨rfl, rfl⟩

set_option maxHeartbeats 400000 in
theorem Parts_zero (T : Int) (ws : List Int) (bw ow cw : Nat) (w : World) (hT : inB T 0 1000000000000 = true) (hlen : ws.length ≤ 200) (hw : ∀ x ∈ ws, 0 ≤ x ∧ x ≤ 1000000) (h0 : sumI ws = 0) (hc : ∀ i, i < ws.length → w.cell? ⟨bw, ow + i, none⟩ = some (.int .i64 (ws.getD i 0))) :
    Calls Try.prog 23 #[.int .i64 T, .slice (some ⟨bw, ow, none⟩) ws.length cw] w fun e w' => e = .returned (.tuple #[.slice none 0 0, .int .i64 1]) ∧ w = w' := by
  have HV := Lib.hid (Valid_yes w hT)
  have HF := Lib.hid (ContainsFunc_none ws bw ow cw w (by omega) hw hc)
  have HZ : Hid (∀ k, sumI (ws.take k) = 0) := Lib.hid fun k => by
    have h1 := sumI_nonneg (l := ws.take k) fun x hx => (hw x (List.mem_of_mem_take hx)).1
    have h2 := sumI_take_le (l := ws) (fun x hx => (hw x hx).1) k
    omega
  obtain ⟨n, hn⟩ : ∃ n, n = ws.length := ⟨_, rfl⟩
  have HC : Hid (∀ i, i < n → w.cell? ⟨bw, ow + i, none⟩ = some (.int .i64 (ws.getD i 0))) := Lib.hid fun i h => hc i (by omega)
  have HX : Hid (∀ i, i < n → ws.getD i 0 = 0) := Lib.hid fun i h => by
    have e := sumI_take_succ ws i (by omega)
    have e1 := HZ.out (i + 1)
    have e2 := HZ.out i
    omega
  have hn1 : n ≤ 200 := by omega
  have h200 : decide ((200 : Int) < (n : Int)) = false := decide_eq_false (by omega)
  rw [← hn] at HF ⊢
  clear hT hw hc h0 hn hlen
  go_enter Try.func23, Try.ntmps23
  go_wp2_with (first | (go_at_call 16; refine (HV.out).mono ?_; rintro e w' ⟨rfl, rfl⟩) | (go_at_call 29; refine (HF.out).mono ?_; rintro e w' ⟨rfl, rfl⟩))
  go_loop [6, 21] (fun s c => ∃ k : Nat, k ≤ n ∧ c = .int .i64 k ∧ s = .int .i64 0) (fun _ c => n - (intOf c).toNat)
  case atStart => exact ⟨0, Nat.zero_le _, rfl, rfl⟩
  case round =>
    obtain ⟨k, hk, rfl, rfl⟩ := hrel
    by_cases hlt : k < n
    · have hcell := HC.out k hlt
      rw [HX.out k hlt] at hcell
      go_wp2
      go_round
      case rel => exact ⟨k + 1, by omega, by go_num, rfl⟩
      case measure => simp [intOf]; omega
    · go_wp2
      go_ret2
      exact ⟨rfl, rfl⟩

set_option maxHeartbeats 400000 in
theorem Parts_nil (T : Int) (ao : Option Addr) (cap : Nat) (w : World) (hT : inB T 0 1000000000000 = true) :
    Calls Try.prog 23 #[.int .i64 T, .slice ao 0 cap] w fun e w' => e = .returned (.tuple #[.slice none 0 0, .int .i64 1]) ∧ w = w' := by
  have HV := Lib.hid (Valid_yes w hT)
  have HF := Lib.hid (ContainsFunc_nil ao cap w)
  clear hT
  go_enter Try.func23, Try.ntmps23
  go_wp2_with (first | (go_at_call 16; refine (HV.out).mono ?_; rintro e w' ⟨rfl, rfl⟩) | (go_at_call 29; refine (HF.out).mono ?_; rintro e w' ⟨rfl, rfl⟩))
  refine wp_loop_rounds 1 ?_
  rw [rounds_succ]
  go_wp2
  go_ret2
  exact ⟨rfl, rfl⟩
end money

section reference
set_option maxHeartbeats 400000 in
theorem rParts_amount (T : Int) (v : Value) (w : World) (hT : inB T 0 1000000000000 = false) :
    Calls Try.prog 24 #[.int .i64 T, v] w fun e w' => e = .returned (.tuple #[.slice none 0 0, .int .i64 2]) ∧ w = w' := by
  have HV := Lib.hid (rValid_no w hT)
  clear hT
  go_enter Try.func24, Try.ntmps24
  go_wp2_with (go_at_call 17; refine (HV.out).mono ?_; rintro e w' ⟨rfl, rfl⟩)
  go_ret2
  exact ⟨rfl, rfl⟩

set_option maxRecDepth 100000 in
set_option maxHeartbeats 1000000 in
theorem rParts_weight (T : Int) (ws : List Int) (bw ow cw : Nat) (w : World) (hT : inB T 0 1000000000000 = true) (hlen : ws.length ≤ 1000) (hbad : allW ws = false) (hc : ∀ i, i < ws.length → w.cell? ⟨bw, ow + i, none⟩ = some (.int .i64 (ws.getD i 0))) :
    Calls Try.prog 24 #[.int .i64 T, .slice (some ⟨bw, ow, none⟩) ws.length cw] w fun e w' => e = .returned (.tuple #[.slice none 0 0, .int .i64 2]) ∧ w = w' := by
  have HV := Lib.hid (rValid_yes w hT)
  obtain ⟨n, hn⟩ : ∃ n, n = ws.length := ⟨_, rfl⟩
  have HC : Hid (∀ i, i < n → w.cell? ⟨bw, ow + i, none⟩ = some (.int .i64 (ws.getD i 0))) := Lib.hid fun i h => hc i (by omega)
  have HBAD := Lib.hid hbad
  have HN := Lib.hid hn
  have hn1 : n ≤ 1000 := by omega
  rw [← hn]
  clear hT hc hbad hn hlen
  go_enter Try.func24, Try.ntmps24
  go_wp2_with (go_at_call 17; refine (HV.out).mono ?_; rintro e w' ⟨rfl, rfl⟩)
  go_loop [23] (fun c => ∃ k : Nat, k ≤ n ∧ c = .int .i64 k ∧ Hid (∀ i, i < k → inB (ws.getD i 0) 0 1000000 = true)) (fun c => n - (intOf c).toNat)
  case atStart => exact ⟨0, Nat.zero_le _, rfl, Lib.hid fun i h => by omega⟩
  case round =>
    obtain ⟨k, hk, rfl, HG⟩ := hrel
    by_cases hlt : k < n
    · obtain ⟨x, hx⟩ : ∃ x, x = ws.getD k 0 := ⟨_, rfl⟩
      have hcell := HC.out k hlt
      rw [← hx] at hcell
      have HX := Lib.hid hx
      clear hx
      by_cases hx0 : x < 0
      · go_wp2
        go_ret2
        exact ⟨rfl, rfl⟩
      · by_cases hx1 : 1000000 < x
        · go_wp2
          go_ret2
          exact ⟨rfl, rfl⟩
        · go_wp2
          go_round
          case rel =>
            refine ⟨k + 1, by omega, by go_num, Lib.hid fun i hi => ?_⟩
            by_cases e : i = k
            · subst e; rw [← HX.out]; exact inB_true.2 ⟨by omega, by omega⟩
            · exact HG.out i (by omega)
          case measure => simp [intOf]; omega
    · exact (allW_bad HBAD.out fun i hi => HG.out i (by have := HN.out; omega)).elim

set_option maxRecDepth 100000 in
set_option maxHeartbeats 1000000 in
theorem rParts_many (T : Int) (ws : List Int) (bw ow cw : Nat) (w : World) (hT : inB T 0 1000000000000 = true) (hlen : ws.length ≤ 1000) (hw : ∀ x ∈ ws, 0 ≤ x ∧ x ≤ 1000000) (hmany : 200 < ws.length) (hc : ∀ i, i < ws.length → w.cell? ⟨bw, ow + i, none⟩ = some (.int .i64 (ws.getD i 0))) :
    Calls Try.prog 24 #[.int .i64 T, .slice (some ⟨bw, ow, none⟩) ws.length cw] w fun e w' => e = .returned (.tuple #[.slice none 0 0, .int .i64 3]) ∧ w = w' := by
  have HV := Lib.hid (rValid_yes w hT)
  obtain ⟨n, hn⟩ : ∃ n, n = ws.length := ⟨_, rfl⟩
  have HC : Hid (∀ i, i < n → w.cell? ⟨bw, ow + i, none⟩ = some (.int .i64 (ws.getD i 0))) := Lib.hid fun i h => hc i (by omega)
  have HWD : Hid (∀ i, i < n → 0 ≤ ws.getD i 0 ∧ ws.getD i 0 ≤ 1000000) := Lib.hid fun i h => by
    have h' : i < ws.length := by omega
    rw [getD_eq h']; exact hw _ (List.getElem_mem h')
  have hn1 : n ≤ 1000 := by omega
  have hz : (200 : Int) < (n : Int) := by omega
  rw [← hn]
  clear hT hc hw hn hlen hmany
  go_enter Try.func24, Try.ntmps24
  go_wp2_with (go_at_call 17; refine (HV.out).mono ?_; rintro e w' ⟨rfl, rfl⟩)
  go_loop [23] (fun c => ∃ k : Nat, k ≤ n ∧ c = .int .i64 k) (fun c => n - (intOf c).toNat)
  case atStart => exact ⟨0, Nat.zero_le _, rfl⟩
  case round =>
    obtain ⟨k, hk, rfl⟩ := hrel
    by_cases hlt : k < n
    · obtain ⟨x, hx⟩ : ∃ x, x = ws.getD k 0 := ⟨_, rfl⟩
      have hcell := HC.out k hlt
      obtain ⟨hx0, hx1⟩ := HWD.out k hlt
      rw [← hx] at hcell hx0 hx1
      clear hx
      go_wp2
      go_round
      case rel => exact ⟨k + 1, by omega, by go_num⟩
      case measure => simp [intOf]; omega
    · go_wp2
      go_ret2
      exact ⟨rfl, rfl⟩

set_option maxRecDepth 100000 in
set_option maxHeartbeats 1000000 in
theorem rParts_zero (T : Int) (ws : List Int) (bw ow cw : Nat) (w : World) (hT : inB T 0 1000000000000 = true) (hlen : ws.length ≤ 200) (hw : ∀ x ∈ ws, 0 ≤ x ∧ x ≤ 1000000) (h0 : sumI ws = 0) (hc : ∀ i, i < ws.length → w.cell? ⟨bw, ow + i, none⟩ = some (.int .i64 (ws.getD i 0))) :
    Calls Try.prog 24 #[.int .i64 T, .slice (some ⟨bw, ow, none⟩) ws.length cw] w fun e w' => e = .returned (.tuple #[.slice none 0 0, .int .i64 1]) ∧ w = w' := by
  have HV := Lib.hid (rValid_yes w hT)
  have HZ : Hid (∀ k, sumI (ws.take k) = 0) := Lib.hid fun k => by
    have h1 := sumI_nonneg (l := ws.take k) fun x hx => (hw x (List.mem_of_mem_take hx)).1
    have h2 := sumI_take_le (l := ws) (fun x hx => (hw x hx).1) k
    omega
  obtain ⟨n, hn⟩ : ∃ n, n = ws.length := ⟨_, rfl⟩
  have HC : Hid (∀ i, i < n → w.cell? ⟨bw, ow + i, none⟩ = some (.int .i64 (ws.getD i 0))) := Lib.hid fun i h => hc i (by omega)
  have HX : Hid (∀ i, i < n → ws.getD i 0 = 0) := Lib.hid fun i h => by
    have e := sumI_take_succ ws i (by omega)
    have e1 := HZ.out (i + 1)
    have e2 := HZ.out i
    omega
  have hn1 : n ≤ 200 := by omega
  have h200 : decide ((200 : Int) < (n : Int)) = false := decide_eq_false (by omega)
  rw [← hn]
  clear hT hw hc h0 hn hlen
  go_enter Try.func24, Try.ntmps24
  go_wp2_with (go_at_call 17; refine (HV.out).mono ?_; rintro e w' ⟨rfl, rfl⟩)
  go_loop [23] (fun c => ∃ k : Nat, k ≤ n ∧ c = .int .i64 k) (fun c => n - (intOf c).toNat)
  case atStart => exact ⟨0, Nat.zero_le _, rfl⟩
  case round =>
    obtain ⟨k, hk, rfl⟩ := hrel
    by_cases hlt : k < n
    · have hcell := HC.out k hlt
      rw [HX.out k hlt] at hcell
      go_wp2
      go_round
      case rel => exact ⟨k + 1, by omega, by go_num⟩
      case measure => simp [intOf]; omega
    · obtain rfl : k = n := by omega
      go_wp2
      go_loop [6, 39] (fun s c => ∃ j : Nat, j ≤ k ∧ c = .int .i64 j ∧ s = .int .i64 0) (fun _ c => k - (intOf c).toNat)
      case atStart => exact ⟨0, Nat.zero_le _, rfl, rfl⟩
      case round =>
        obtain ⟨j, hj, rfl, rfl⟩ := hrel
        by_cases hlt2 : j < k
        · have hcell := HC.out j hlt2
          rw [HX.out j hlt2] at hcell
          go_wp2
          go_round
          case rel => exact ⟨j + 1, by omega, by go_num, rfl⟩
          case measure => simp [intOf]; omega
        · go_wp2
          go_ret2
          exact ⟨rfl, rfl⟩

set_option maxHeartbeats 400000 in
theorem rParts_nil (T : Int) (ao : Option Addr) (cap : Nat) (w : World) (hT : inB T 0 1000000000000 = true) :
    Calls Try.prog 24 #[.int .i64 T, .slice ao 0 cap] w fun e w' => e = .returned (.tuple #[.slice none 0 0, .int .i64 1]) ∧ w = w' := by
  have HV := Lib.hid (rValid_yes w hT)
  clear hT
  go_enter Try.func24, Try.ntmps24
  go_wp2_with (go_at_call 17; refine (HV.out).mono ?_; rintro e w' ⟨rfl, rfl⟩)
  refine wp_loop_rounds 1 ?_
  rw [rounds_succ]
  go_wp2
  refine wp_loop_rounds 1 ?_
  rw [rounds_succ]
  go_wp2
  go_ret2
  exact ⟨rfl, rfl⟩
end reference

theorem err_amount {T : Int} {ws : List Int} (h : inB T 0 1000000000000 = false) : partsErr T ws = 2 := if_pos (Or.inl h)
theorem err_weight {T : Int} {ws : List Int} (h : allW ws = false) : partsErr T ws = 2 := if_pos (Or.inr h)
theorem err_many {T : Int} {ws : List Int} (h1 : inB T 0 1000000000000 = true) (h2 : allW ws = true) (h3 : 200 < ws.length) : partsErr T ws = 3 := by
  unfold partsErr; rw [if_neg (by rw [h1, h2]; simp), if_pos h3]
theorem err_zero {T : Int} {ws : List Int} (h1 : inB T 0 1000000000000 = true) (h2 : allW ws = true) (h3 : ws.length ≤ 200) (h4 : sumI ws = 0) : partsErr T ws = 1 := by
  unfold partsErr; rw [if_neg (by rw [h1, h2]; simp), if_neg (by omega), if_pos h4]
theorem err_none {T : Int} {ws : List Int} (h1 : inB T 0 1000000000000 = true) (h2 : allW ws = true) (h3 : ws.length ≤ 200) (h4 : sumI ws ≠ 0) : partsErr T ws = 0 := by
  unfold partsErr; rw [if_neg (by rw [h1, h2]; simp), if_neg (by omega), if_neg h4]

theorem Parts_all (T : Int) (v : Value) (ws : List Int) (w : World) (h : RowAt w v ws) (hlen : ws.length ≤ 1000) : Calls Try.prog 23 #[.int .i64 T, v] w (PartsPost T ws w) := by
  cases hT : inB T 0 1000000000000 with
  | false => exact (Parts_amount T v w hT).mono (post_err (err_amount hT) (by decide))
  | true =>
    rcases h with ⟨rfl, ao, cap, rfl⟩ | ⟨b, o, cap, rfl, hb, hc⟩
    · exact (Parts_nil T ao cap w hT).mono (post_err (err_zero hT rfl (by simp) rfl) (by decide))
    · cases hW : allW ws with
      | false => exact (Parts_weight T ws b o cap w hT hlen hW hc).mono (post_err (err_weight hW) (by decide))
      | true =>
        by_cases hm : 200 < ws.length
        · exact (Parts_many T ws b o cap w hT hlen (allW_true.1 hW) hm hc).mono (post_err (err_many hT hW hm) (by decide))
        · by_cases h0 : sumI ws = 0
          · exact (Parts_zero T ws b o cap w hT (by omega) (allW_true.1 hW) h0 hc).mono (post_err (err_zero hT hW (by omega) h0) (by decide))
          · have hnn := sumI_nonneg (l := ws) fun x hx => (allW_true.1 hW x hx).1
            have hpos : 0 < ws.length := by
              cases ws with
              | nil => exact absurd rfl h0
              | cons x l => simp
            refine (Parts_ok T (sumI ws) ws (by omega) hpos b o cap w hT (allW_true.1 hW) rfl (by omega) hb hc).mono fun e w' ⟨P, he, ho, hbel⟩ => ?_
            have e0 := err_none hT hW (by omega) h0
            refine ⟨_, by rw [e0]; exact he, ?_, hbel⟩
            unfold partsOut
            rw [if_pos e0]
            exact RowAt.owns ho

theorem rParts_all (T : Int) (v : Value) (ws : List Int) (w : World) (h : RowAt w v ws) (hlen : ws.length ≤ 1000) : Calls Try.prog 24 #[.int .i64 T, v] w (PartsPost T ws w) := by
  cases hT : inB T 0 1000000000000 with
  | false => exact (rParts_amount T v w hT).mono (post_err (err_amount hT) (by decide))
  | true =>
    rcases h with ⟨rfl, ao, cap, rfl⟩ | ⟨b, o, cap, rfl, hb, hc⟩
    · exact (rParts_nil T ao cap w hT).mono (post_err (err_zero hT rfl (by simp) rfl) (by decide))
    · cases hW : allW ws with
      | false => exact (rParts_weight T ws b o cap w hT hlen hW hc).mono (post_err (err_weight hW) (by decide))
      | true =>
        by_cases hm : 200 < ws.length
        · exact (rParts_many T ws b o cap w hT hlen (allW_true.1 hW) hm hc).mono (post_err (err_many hT hW hm) (by decide))
        · by_cases h0 : sumI ws = 0
          · exact (rParts_zero T ws b o cap w hT (by omega) (allW_true.1 hW) h0 hc).mono (post_err (err_zero hT hW (by omega) h0) (by decide))
          · have hnn := sumI_nonneg (l := ws) fun x hx => (allW_true.1 hW x hx).1
            have hpos : 0 < ws.length := by
              cases ws with
              | nil => exact absurd rfl h0
              | cons x l => simp
            refine (rParts_ok T (sumI ws) ws (by omega) hpos b o cap w hT (allW_true.1 hW) rfl (by omega) hb hc).mono fun e w' ⟨v, he, ho, hbel⟩ => ?_
            have e0 := err_none hT hW (by omega) h0
            refine ⟨_, by rw [e0]; exact he, ?_, hbel⟩
            unfold partsOut
            rw [if_pos e0]
            exact RowAt.owns ho

end Go.Proofs.Ytbndcjbnpgdpjaa
