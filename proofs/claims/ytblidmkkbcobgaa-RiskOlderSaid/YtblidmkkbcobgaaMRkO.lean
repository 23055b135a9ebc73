/- RiskOlder's registers: two securities, each held by one holder; and what redeeming the first makes of the average term: mathematics. -/
import Derived.Test.YtblidmkkbcobgaaMG3
import Derived.Test.YtblidmkkbcobgaaMG9
import Derived.Test.YtblidmkkbcobgaaMRyH
set_option linter.unusedSimpArgs false
set_option linter.unusedVariables false
set_option linter.unusedSimpArgs false
set_option linter.unusedVariables false
namespace Go.Proofs.Ytblidmkkbcobgaa
open Go.RowKit Go.Lib Go.Proofs

def oS1 : Sec := ⟨1, 1, 0, 720, 5000, 12, false⟩
def oS2 : Sec := ⟨2, 1, 0, 1440, 5000, 12, false⟩
def oSec : Nat → Sec
  | 0 => oS1
  | _ => oS2
theorem oS1_ok : SecOk oS1 12 2 := ⟨by decide, by decide, by decide, by decide, by decide, by decide, by decide, by decide, by decide, by decide, by decide, by decide, by decide⟩
theorem oS2_ok : SecOk oS2 12 4 := ⟨by decide, by decide, by decide, by decide, by decide, by decide, by decide, by decide, by decide, by decide, by decide, by decide, by decide⟩
theorem oSec_ok (k : Nat) : SecR (oSec k) := by
  cases k with
  | zero => exact ⟨12, 2, oS1_ok⟩
  | succ k => exact ⟨12, 4, oS2_ok⟩
theorem secs_o1 : SecsOk [oS1] := ⟨fun s hs => by rw [List.mem_singleton] at hs; rw [hs]; exact ⟨12, 2, oS1_ok⟩, List.pairwise_singleton _ _, by decide⟩
theorem secs_o2 : SecsOk [oS1, oS2] := ⟨fun s hs => by
  simp only [List.mem_cons, List.mem_nil_iff, or_false] at hs
  rcases hs with rfl | rfl
  · exact ⟨12, 2, oS1_ok⟩
  · exact ⟨12, 4, oS2_ok⟩, by decide, by decide⟩
/-- The register after some issues. -/
def olR : List Int → Reg
  | [] => ⟨[], [], []⟩
  | [a] => ⟨[oS1], [⟨1, 1, a⟩], [⟨1, 0, 1, 1, 0, 1, a⟩]⟩
  | a :: b :: _ => ⟨[oS1, oS2], [⟨1, 1, a⟩, ⟨2, 1, b⟩], [⟨1, 0, 1, 1, 0, 1, a⟩, ⟨2, 0, 1, 2, 0, 1, b⟩]⟩
/-- The same, with one security more. -/
def olX (l : List Int) : Reg := ⟨(olR l).secs ++ [oSec l.length], (olR l).hs, (olR l).ms⟩
def OlOk (l : List Int) : Prop := l.length ≤ 2 ∧ ∀ a ∈ l, 1 ≤ a ∧ a ≤ 5000
theorem fault_issue (secs : List Sec) (hs : List Hld) (num id a : Int) (s : Sec) (hf : findS id secs = some s) (hi : s.iss = 0) (hm : 0 ≤ s.mat) (hu : s.unit = 1) (ho : outM hs id = 0) (ha : 1 ≤ a ∧ a ≤ 5000) : faultM secs hs 0 ⟨num, 0, 1, id, 0, 1, a⟩ = 0 := by
  unfold faultM
  simp only
  rw [hf]
  simp only
  unfold faultS
  simp only
  have ht : a.tmod s.unit = 0 := by rw [hu, Int.tmod_eq_emod_of_nonneg (by omega)]; omega
  have he : endsB ⟨num, 0, 1, id, 0, 1, a⟩ = true := by unfold endsB; simp
  rw [he, ho]
  refine (if_neg ?_).trans ?_
  · simp; omega
  refine (if_neg ?_).trans ?_
  · rw [ht]; omega
  refine (if_neg (by simp)).trans ?_
  refine (if_neg (fun q => q.1 rfl)).trans ?_
  exact if_neg (fun q => by have := q.2; omega)
theorem olx0 : RegOk (olX []) := ⟨secs_o1, by decide, rfl⟩
theorem olf0 {a : Int} (ha : 1 ≤ a ∧ a ≤ 5000) : faultM [oS1] [] 0 ⟨1, 0, 1, 1, 0, 1, a⟩ = 0 := fault_issue _ _ _ _ _ oS1 rfl rfl (by decide) rfl rfl ha
theorem olv0 {a : Int} (ha : 1 ≤ a ∧ a ≤ 5000) : addM (olX []) ⟨1, 0, 1, 1, 0, 1, a⟩ = olR [a] := by
  have : ¬ a = 0 := by omega
  simp [addM, olX, olR, oSec, carryM, setM, this]
theorem olr1 {a : Int} (ha : 1 ≤ a ∧ a ≤ 5000) : RegOk (olR [a]) := by
  rw [← olv0 ha]
  exact olx0.add (by decide) rfl (olf0 ha)
theorem olx1 {a : Int} (ha : 1 ≤ a ∧ a ≤ 5000) : RegOk (olX [a]) := by
  refine ⟨secs_o2, by simp [olX, olR], ?_⟩
  have h : faultM [oS1, oS2] [] 0 ⟨1, 0, 1, 1, 0, 1, a⟩ = 0 := fault_issue _ _ _ _ _ oS1 rfl rfl (by decide) rfl rfl ha
  have h0 : ¬ a = 0 := by omega
  show replayM [oS1, oS2] [] Mv.zero [⟨1, 0, 1, 1, 0, 1, a⟩] = some [⟨1, 1, a⟩]
  simp only [replayM]
  rw [if_pos ⟨rfl, h⟩]
  simp [carryM, setM, h0]
theorem olf1 {a b : Int} (ha : 1 ≤ a ∧ a ≤ 5000) (hb : 1 ≤ b ∧ b ≤ 5000) : faultM [oS1, oS2] [⟨1, 1, a⟩] 0 ⟨2, 0, 1, 2, 0, 1, b⟩ = 0 := fault_issue _ _ _ _ _ oS2 rfl rfl (by decide) rfl (by simp [outM, sumH, isOf]) hb
theorem olv1 {a b : Int} (ha : 1 ≤ a ∧ a ≤ 5000) (hb : 1 ≤ b ∧ b ≤ 5000) : addM (olX [a]) ⟨2, 0, 1, 2, 0, 1, b⟩ = olR [a, b] := by
  have : ¬ b = 0 := by omega
  simp [addM, olX, olR, oSec, carryM, setM, this]
theorem olr2 {a b : Int} (ha : 1 ≤ a ∧ a ≤ 5000) (hb : 1 ≤ b ∧ b ≤ 5000) : RegOk (olR [a, b]) := by
  rw [← olv1 ha hb]
  exact (olx1 ha).add (by simp [olX, olR]) rfl (olf1 ha hb)
theorem ol_ok {l : List Int} (h : OlOk l) : RegOk (olR l) := by
  obtain ⟨h1, h2⟩ := h
  match l, h1, h2 with
  | [], _, _ => exact ⟨⟨fun s hs => by simp [olR] at hs, List.Pairwise.nil, by decide⟩, by decide, rfl⟩
  | [a], _, h2 => exact olr1 (h2 a (by simp))
  | [a, b], _, h2 => exact olr2 (h2 a (by simp)) (h2 b (by simp))
  | a :: b :: c :: l, h1, _ => exact absurd h1 (by simp)
theorem ol_x {l : List Int} (h : OlOk l) (hl : l.length < 2) : RegOk (olX l) := by
  obtain ⟨h1, h2⟩ := h
  match l, hl, h2 with
  | [], _, _ => exact olx0
  | [a], _, h2 => exact olx1 (h2 a (by simp))
theorem ol_ids {l : List Int} (hl : l.length < 2) : ∀ t ∈ (olR l).secs, t.id < (oSec l.length).id := by
  match l, hl with
  | [], _ => intro t ht; simp [olR] at ht
  | [a], _ => intro t ht; simp [olR] at ht; subst ht; show (1 : Int) < 2; omega
theorem ol_len {l : List Int} (hl : l.length < 2) : (olR l).secs.length < 20 := by
  match l, hl with
  | [], _ => decide
  | [a], _ => simp [olR]
theorem ol_sec {l : List Int} (hl : l.length < 2) : (oSec l.length).cells = [.int .i64 ((l.length : Int) + 1), .int .i64 1, .int .i64 0, .int .i64 (720 * ((l.length : Int) + 1)), .int .i64 5000, .int .i64 12, .bool false] := by
  match l, hl with
  | [], _ => rfl
  | [a], _ => rfl
theorem ol_issue {l : List Int} (h : OlOk l) (hl : l.length < 2) {n : Int} (hn : 1 ≤ n ∧ n ≤ 5000) : addE (olX l) ⟨0, 0, 1, (l.length : Int) + 1, 0, 1, n⟩ = 0 ∧ addV (olX l) ⟨0, 0, 1, (l.length : Int) + 1, 0, 1, n⟩ = olR (l ++ [n]) := by
  have hx := ol_x h hl
  have he : addE (olX l) ⟨0, 0, 1, (l.length : Int) + 1, 0, 1, n⟩ = 0 := by
    rw [addE_ok hx]
    obtain ⟨h1, h2⟩ := h
    match l, hl, h2 with
    | [], _, _ => exact (if_neg (by decide)).trans (olf0 hn)
    | [a], _, h2 => exact (if_neg (by simp [olX, olR])).trans (olf1 (h2 a (by simp)) hn)
  refine ⟨he, ?_⟩
  unfold addV
  rw [if_pos he]
  obtain ⟨h1, h2⟩ := h
  match l, hl, h2 with
  | [], _, _ => exact olv0 hn
  | [a], _, h2 => exact olv1 (h2 a (by simp)) hn
theorem ol_snoc {l : List Int} (h : OlOk l) (hl : l.length < 2) {n : Int} (hn : 1 ≤ n ∧ n ≤ 5000) : OlOk (l ++ [n]) := by
  refine ⟨by simp; omega, fun a ha => ?_⟩
  rw [List.mem_append, List.mem_singleton] at ha
  rcases ha with ha | rfl
  · exact h.2 a ha
  · exact hn
theorem ol_two {l : List Int} (h : OlOk l) (hl : l.length = 2) : ∃ a b, l = [a, b] ∧ (1 ≤ a ∧ a ≤ 5000) ∧ (1 ≤ b ∧ b ≤ 5000) := by
  match l, hl with
  | [a, b], _ => exact ⟨a, b, rfl, h.2 a (by simp), h.2 b (by simp)⟩

/-! ### What is redeemed -/
def olZ (a b : Int) : Reg := ⟨[oS1, oS2], [⟨2, 1, b⟩], [⟨1, 0, 1, 1, 0, 1, a⟩, ⟨2, 0, 1, 2, 0, 1, b⟩, ⟨3, 10, 3, 1, 1, 0, a⟩]⟩
theorem olf2 {a b : Int} (ha : 1 ≤ a ∧ a ≤ 5000) (hb : 1 ≤ b ∧ b ≤ 5000) : faultM [oS1, oS2] [⟨1, 1, a⟩, ⟨2, 1, b⟩] 0 ⟨3, 10, 3, 1, 1, 0, a⟩ = 0 := by
  unfold faultM
  rw [show findS (⟨3, 10, 3, 1, 1, 0, a⟩ : Mv).sec [oS1, oS2] = some oS1 from rfl]
  simp only
  unfold faultS
  simp only
  have ht : a.tmod oS1.unit = 0 := by show a.tmod 1 = 0; rw [Int.tmod_eq_emod_of_nonneg (by omega)]; omega
  have he : endsB ⟨3, 10, 3, 1, 1, 0, a⟩ = true := by unfold endsB; simp
  have hh : heldM [⟨1, 1, a⟩, ⟨2, 1, b⟩] 1 1 = a := by simp [heldM, sumH, isAt]
  rw [he, hh]
  refine (if_neg ?_).trans ?_
  · simp [oS1]
  refine (if_neg ?_).trans ?_
  · rw [ht]; omega
  refine (if_neg (by simp)).trans ?_
  refine (if_neg (fun q => by have := q.2; omega)).trans ?_
  exact if_neg (fun q => by have := q.1; omega)
theorem ol_redeem {a b : Int} (ha : 1 ≤ a ∧ a ≤ 5000) (hb : 1 ≤ b ∧ b ≤ 5000) : addE (olR [a, b]) ⟨0, 10, 3, 1, 1, 0, a⟩ = 0 ∧ addV (olR [a, b]) ⟨0, 10, 3, 1, 1, 0, a⟩ = olZ a b ∧ RegOk (olZ a b) := by
  have hx := olr2 ha hb
  have hf := olf2 ha hb
  have he : addE (olR [a, b]) ⟨0, 10, 3, 1, 1, 0, a⟩ = 0 := by
    rw [addE_ok hx]
    exact (if_neg (by simp [olR])).trans hf
  have hv : addM (olR [a, b]) ⟨3, 10, 3, 1, 1, 0, a⟩ = olZ a b := by
    have : a + -a = 0 := by omega
    simp [addM, olR, olZ, carryM, setM, this]
  refine ⟨he, ?_, ?_⟩
  · unfold addV
    rw [if_pos he]
    exact hv
  · rw [← hv]
    exact hx.add (by simp [olR]) rfl hf
theorem ol_held (a b : Int) : heldM (olR [a, b]).hs 1 1 = a := by simp [olR, heldM, sumH, isAt]
theorem ol_term (a b : Int) : termN (olR [a, b]).secs 10 (olR [a, b]).hs = a * 710 + b * 1430 ∧ termD (olR [a, b]).secs 10 (olR [a, b]).hs = a + b := by
  have e1 : (secAt [oS1, oS2] 1).mat = 720 := rfl
  have e2 : (secAt [oS1, oS2] 2).mat = 1440 := rfl
  simp [olR, termN, termD, e1, e2]
theorem ol_termZ (a b : Int) : termN (olZ a b).secs 10 (olZ a b).hs = b * 1430 ∧ termD (olZ a b).secs 10 (olZ a b).hs = b := by
  have e2 : (secAt [oS1, oS2] 2).mat = 1440 := rfl
  simp [olZ, termN, termD, e2]
theorem ol_longer {a b : Int} (ha : 1 ≤ a) (hb : 1 ≤ b) : (a * 710 + b * 1430) * b ≤ b * 1430 * (a + b) := by
  have h := Int.mul_nonneg (show 0 ≤ a by omega) (show 0 ≤ b by omega)
  have e1 : (a * 710 + b * 1430) * b = a * b * 710 + b * b * 1430 := by rw [Int.add_mul]; congr 1 <;> (rw [Int.mul_right_comm])
  have e2 : b * 1430 * (a + b) = a * b * 1430 + b * b * 1430 := by rw [Int.mul_add, Int.mul_right_comm b 1430 a, Int.mul_right_comm b 1430 b, Int.mul_comm b a]
  rw [e1, e2]
  generalize a * b = p at *
  generalize b * b = q at *
  omega

/-! ### Paths without interest -/
theorem srv_flat (r : Reg) (first : Int) {rates : List Int} (hz : ∀ i, rateAt rates i = 0) (i : Nat) : (srvM r first rates i).int = cpnM r (first + (i : Int)) := by
  simp only [srvM]
  rw [hz i, intM_none, Int.add_zero]

end Go.Proofs.Ytblidmkkbcobgaa
