/- Texts of one claim, merged: RkM, MonF. -/
import Derived.Test.YtblidmkkbcobgaaMG1
import Derived.Test.YtblidmkkbcobgaaMCoup
import Derived.Test.YtblidmkkbcobgaaMRhG
/- What falls due of a debt, year by year, and what its service is: mathematics; of no function of the program; no condition. -/
set_option linter.unusedSimpArgs false
set_option linter.unusedVariables false
set_option linter.unusedSimpArgs false
set_option linter.unusedVariables false
namespace Go.Proofs.Ytblidmkkbcobgaa
open Go.RowKit Go.Lib Go.Proofs

theorem set_known {secs : List Sec} {l : List Hld} {id who n : Int} {s : Sec} (hl : ∀ h ∈ l, ∃ s, findS h.sec secs = some s) (hs : findS id secs = some s) : ∀ h ∈ setM id who n l, ∃ s, findS h.sec secs = some s := fun h hh => by
  rcases setM_mem hh with h1 | h1
  · exact hl h h1
  · exact ⟨s, by rw [h1.1]; exact hs⟩
theorem carry_known {secs : List Sec} {l : List Hld} {m : Mv} {s : Sec} (hl : ∀ h ∈ l, ∃ s, findS h.sec secs = some s) (hs : findS m.sec secs = some s) : ∀ h ∈ carryM l m, ∃ s, findS h.sec secs = some s := by
  unfold carryM
  simp only
  split
  · split
    · exact hl
    · exact set_known hl hs
  · split
    · exact set_known hl hs
    · exact set_known (set_known hl hs) hs
theorem replay_known {secs : List Sec} (hb : ∀ s ∈ secs, s.mat ≤ 36000) : ∀ {ms : List Mv} {l : List Hld} {b : Mv} {k : List Hld}, (∀ h ∈ l, ∃ s, findS h.sec secs = some s) → replayM secs l b ms = some k → ∀ h ∈ k, ∃ s, findS h.sec secs = some s
  | [], l, b, k, hl, h => by simp only [replayM] at h; injection h with h; subst h; exact hl
  | m :: ms, l, b, k, hl, h => by
    simp only [replayM] at h
    split at h
    · rename_i hc
      obtain ⟨s, hm⟩ := fault_zero hb hc.2
      exact replay_known hb (carry_known hl hm.sec) h
    · cases h

/-- The security of a number; that of zeros where there is none. -/
def secAt (secs : List Sec) (id : Int) : Sec := (findS id secs).getD Sec.zero
theorem secAt_of {secs : List Sec} {id : Int} {s : Sec} (h : findS id secs = some s) : secAt secs id = s := by unfold secAt; rw [h]; rfl
theorem RegOk.known {r : Reg} (h : RegOk r) : ∀ x ∈ r.hs, findS x.sec r.secs = some (secAt r.secs x.sec) ∧ SecR (secAt r.secs x.sec) ∧ secAt r.secs x.sec ∈ r.secs := fun x hx => by
  obtain ⟨s, hs⟩ := replay_known (fun s hs => (h.secs.bound s hs).2.2) (l := []) (fun h hh => by simp at hh) h.run x hx
  rw [secAt_of hs]
  exact ⟨hs, h.secs.ok s (findS_id hs).2, (findS_id hs).2⟩
theorem RegOk.hld {r : Reg} (h : RegOk r) : ∀ x ∈ r.hs, HldOk x := h.runM.inv.ok.ok

/-! ### Sums over holdings -/
theorem sumH_three (d : Hld → Int) (y : Int) : ∀ l : List Hld, sumH (fun h => decide (y < d h)) l + (sumH (fun h => d h == y) l + sumH (fun h => decide (d h < y)) l) = sumH (fun _ => true) l
  | [] => by simp [sumH]
  | h :: l => by
    have ih := sumH_three d y l
    simp only [sumH]
    by_cases a : y < d h
    · have b : (d h == y) = false := by rw [beq_eq_false_iff_ne]; omega
      have c : ¬ d h < y := by omega
      simp only [a, b, c, decide_true, decide_false, if_true, if_false, Bool.false_eq_true]; omega
    · by_cases c : d h < y
      · have b : (d h == y) = false := by rw [beq_eq_false_iff_ne]; omega
        simp only [a, b, c, decide_true, decide_false, if_true, if_false, Bool.false_eq_true]; omega
      · have b : (d h == y) = true := by rw [beq_iff_eq]; omega
        simp only [a, b, c, decide_true, decide_false, if_true, if_false, Bool.false_eq_true]; omega
theorem sumH_two (d : Hld → Int) (y : Int) : ∀ l : List Hld, sumH (fun h => decide (d h < y + 1)) l = sumH (fun h => d h == y) l + sumH (fun h => decide (d h < y)) l
  | [] => by simp [sumH]
  | h :: l => by
    have ih := sumH_two d y l
    simp only [sumH]
    by_cases c : d h < y
    · have b : (d h == y) = false := by rw [beq_eq_false_iff_ne]; omega
      have a : d h < y + 1 := by omega
      simp only [a, b, c, decide_true, decide_false, if_true, if_false, Bool.false_eq_true]; omega
    · by_cases a : d h < y + 1
      · have b : (d h == y) = true := by rw [beq_iff_eq]; omega
        simp only [a, b, c, decide_true, decide_false, if_true, if_false, Bool.false_eq_true]; omega
      · have b : (d h == y) = false := by rw [beq_eq_false_iff_ne]; omega
        simp only [a, b, c, decide_true, decide_false, if_true, if_false, Bool.false_eq_true]; omega
theorem sumH_none {p : Hld → Bool} : ∀ {l : List Hld}, (∀ h ∈ l, p h = false) → sumH p l = 0
  | [], _ => rfl
  | h :: l, k => by
    have ih := sumH_none (p := p) (l := l) fun x hx => k x (List.mem_cons_of_mem _ hx)
    simp [sumH, ih, k h List.mem_cons_self]
theorem sumH_every {p : Hld → Bool} : ∀ {l : List Hld}, (∀ h ∈ l, p h = true) → sumH p l = sumH (fun _ => true) l
  | [], _ => rfl
  | h :: l, k => by
    have ih := sumH_every (p := p) (l := l) fun x hx => k x (List.mem_cons_of_mem _ hx)
    simp [sumH, ih, k h List.mem_cons_self]
theorem sumH_le {p : Hld → Bool} : ∀ {l : List Hld}, (∀ h ∈ l, HldOk h) → 0 ≤ sumH p l ∧ sumH p l ≤ sumH (fun _ => true) l
  | [], _ => by simp [sumH]
  | h :: l, k => by
    have ih := sumH_le (p := p) (l := l) fun x hx => k x (List.mem_cons_of_mem _ hx)
    have h1 := (k h List.mem_cons_self).amt
    simp only [sumH, if_true]
    split <;> omega
theorem sumS_le {f : Int → Int} {B : Int} (hB : 0 ≤ B) (hf : ∀ i, f i ≤ B) : ∀ l : List Sec, sumS f l ≤ B * (l.length : Int)
  | [] => by simp [sumS]
  | s :: l => by
    have ih := sumS_le hB hf l
    have h1 := hf s.id
    simp only [sumS, List.length_cons]
    rw [show B * ((l.length + 1 : Nat) : Int) = B * (l.length : Int) + B by rw [Int.natCast_add, Int.mul_add]; simp]
    omega
theorem RegOk.debt_in {r : Reg} (h : RegOk r) : 0 ≤ debtM r.hs ∧ debtM r.hs ≤ 20000000000000 := by
  refine ⟨(sumH_le (p := fun _ => true) h.hld).1, ?_⟩
  rw [h.debt]
  have h1 := sumS_le (f := outM r.hs) (B := 1000000000000) (by omega) h.runM.inv.out r.secs
  have h2 := h.secs.len
  omega

/-! ### What falls due -/
def dueY (secs : List Sec) (h : Hld) : Int := (secAt secs h.sec).mat / 360
def fallsM (r : Reg) (y : Int) : Int := sumH (fun h => dueY r.secs h == y) r.hs
def laterM (r : Reg) (y : Int) : Int := sumH (fun h => decide (y < dueY r.secs h)) r.hs
def belowM (r : Reg) (y : Int) : Int := sumH (fun h => decide (dueY r.secs h < y)) r.hs
theorem below_succ (r : Reg) (y : Int) : belowM r (y + 1) = fallsM r y + belowM r y := sumH_two _ _ _
theorem later_all (r : Reg) (y : Int) : laterM r y + (fallsM r y + belowM r y) = debtM r.hs := sumH_three _ _ _
theorem RegOk.due {r : Reg} (h : RegOk r) : ∀ x ∈ r.hs, 0 ≤ dueY r.secs x ∧ dueY r.secs x ≤ 99 := fun x hx => by
  obtain ⟨-, ⟨z, q, k⟩, -⟩ := h.known x hx
  have h1 := k.mat1
  have h2 := k.iss0
  have h3 := k.term
  have h4 : 0 ≤ z * q := Int.mul_nonneg (by rcases k.ev with e | e | e | e | e <;> omega) (by have := k.r0; omega)
  unfold dueY
  omega
theorem below_zero {r : Reg} (h : RegOk r) : belowM r 0 = 0 := sumH_none fun x hx => by have := (h.due x hx).1; simp; omega
theorem below_in {r : Reg} (h : RegOk r) (y : Int) : 0 ≤ belowM r y ∧ belowM r y ≤ debtM r.hs := sumH_le h.hld
theorem falls_in {r : Reg} (h : RegOk r) (y : Int) : 0 ≤ fallsM r y ∧ fallsM r y ≤ debtM r.hs := sumH_le h.hld
theorem later_in {r : Reg} (h : RegOk r) (y : Int) : 0 ≤ laterM r y ∧ laterM r y ≤ debtM r.hs := sumH_le h.hld

/-! ### Coupons -/
def zOf (s : Sec) : Int := if s.ev = 0 then 1 else s.ev
def rOf (s : Sec) : Int := (s.mat - s.iss) / (30 * zOf s)
def daysQ (s : Sec) : List Int := daysM s (zOf s) (rOf s)
theorem SecOk.z_eq {s : Sec} {z r : Int} (h : SecOk s z r) : zOf s = z := by
  unfold zOf
  rcases h.ev with e | e | e | e | e <;> split <;> omega
theorem SecOk.r_eq {s : Sec} {z r : Int} (h : SecOk s z r) : rOf s = r := by
  unfold rOf
  rw [h.z_eq]
  have h1 := h.term
  rcases h.ev with ⟨-, -, rfl⟩ | ⟨-, rfl⟩ | ⟨-, rfl⟩ | ⟨-, rfl⟩ | ⟨-, rfl⟩ <;> omega
theorem SecOk.daysQ {s : Sec} {z r : Int} (h : SecOk s z r) : daysM s z r = daysQ s := by unfold Proofs.Ytblidmkkbcobgaa.daysQ; rw [h.z_eq, h.r_eq]
theorem SecR.own {s : Sec} (h : SecR s) : SecOk s (zOf s) (rOf s) := by obtain ⟨z, r, k⟩ := h; rw [k.z_eq, k.r_eq]; exact k
theorem days_len {s : Sec} (h : SecR s) : (daysQ s).length ≤ 600 := by
  have k := h.own
  unfold daysQ daysM
  split
  · simp
  · rw [daysL_len]
    have h1 := k.zr
    have h2 := k.r0
    have h3 : rOf s ≤ zOf s * rOf s := by
      rcases k.ev with ⟨-, -, e⟩ | ⟨-, e⟩ | ⟨-, e⟩ | ⟨-, e⟩ | ⟨-, e⟩ <;> rw [e] <;> omega
    omega
theorem days_in {s : Sec} (h : SecR s) : ∀ d ∈ daysQ s, 0 ≤ d ∧ d ≤ 35990 := fun d hd => by
  have k := h.own
  unfold daysQ daysM at hd
  split at hd
  · simp at hd
  · unfold daysL at hd
    rw [List.mem_map] at hd
    obtain ⟨j, hj, rfl⟩ := hd
    rw [List.mem_range] at hj
    have h1 := k.iss0
    have h2 := k.mat1
    have h3 := k.term
    have h5 := k.r0
    have h4 : (j : Int) + 1 ≤ rOf s := by omega
    rcases k.ev with ⟨-, -, e⟩ | ⟨-, e⟩ | ⟨-, e⟩ | ⟨-, e⟩ | ⟨-, e⟩ <;> rw [e] at h3 ⊢ <;> omega
def cnt (y : Int) (l : List Int) : Nat := l.countP fun d => d / 360 == y
theorem cnt_snoc (y d : Int) (l : List Int) : cnt y (l ++ [d]) = cnt y l + (if d / 360 = y then 1 else 0) := by
  unfold cnt
  rw [List.countP_append, List.countP_singleton]
  by_cases h : d / 360 = y <;> simp [h]
theorem coupon_in {s : Sec} (h : SecR s) {a : Int} (a0 : 0 ≤ a) : 0 ≤ couponI s a ∧ couponI s a ≤ a := by
  have k := h.own
  have h1 : 0 ≤ a * s.rate ∧ a * s.rate ≤ a * 20000 := ⟨Int.mul_nonneg a0 k.rate0, Int.mul_le_mul_of_nonneg_left k.rate1 a0⟩
  have h2 : 0 ≤ a * s.rate * s.ev ∧ a * s.rate * s.ev ≤ a * 20000 * 12 := ⟨Int.mul_nonneg h1.1 k.ev0.1, Int.le_trans (Int.mul_le_mul_of_nonneg_left k.ev0.2 h1.1) (Int.mul_le_mul_of_nonneg_right h1.2 (by omega))⟩
  unfold couponI shareI
  generalize a * s.rate * s.ev = p at *
  omega
/-- The coupons of holdings in a year. -/
def cpnS (secs : List Sec) (y : Int) : List Hld → Int
  | [] => 0
  | h :: l => couponI (secAt secs h.sec) h.amt * (cnt y (daysQ (secAt secs h.sec)) : Int) + cpnS secs y l
def cpnM (r : Reg) (y : Int) : Int := cpnS r.secs y r.hs
theorem cpnS_app (secs : List Sec) (y : Int) : ∀ l m : List Hld, cpnS secs y (l ++ m) = cpnS secs y l + cpnS secs y m
  | [], m => by simp [cpnS]
  | h :: l, m => by simp only [List.cons_append, cpnS, cpnS_app secs y l m]; omega
theorem cpnS_in {secs : List Sec} (y : Int) : ∀ {l : List Hld}, (∀ h ∈ l, HldOk h ∧ SecR (secAt secs h.sec)) → 0 ≤ cpnS secs y l ∧ cpnS secs y l ≤ 600 * sumH (fun _ => true) l
  | [], _ => by simp [cpnS, sumH]
  | h :: l, k => by
    have ih := cpnS_in (secs := secs) y (l := l) fun x hx => k x (List.mem_cons_of_mem _ hx)
    obtain ⟨k1, k2⟩ := k h List.mem_cons_self
    have h1 := coupon_in k2 (a := h.amt) (by have := k1.amt; omega)
    have h2 : (cnt y (daysQ (secAt secs h.sec)) : Int) ≤ 600 := by
      have a := days_len k2
      have b : cnt y (daysQ (secAt secs h.sec)) ≤ (daysQ (secAt secs h.sec)).length := List.countP_le_length
      omega
    have h3 : couponI (secAt secs h.sec) h.amt * (cnt y (daysQ (secAt secs h.sec)) : Int) ≤ h.amt * 600 := Int.le_trans (Int.mul_le_mul_of_nonneg_right h1.2 (by omega)) (Int.mul_le_mul_of_nonneg_left h2 (by have := k1.amt; omega))
    have h4 := Int.mul_nonneg h1.1 (show 0 ≤ (cnt y (daysQ (secAt secs h.sec)) : Int) by omega)
    simp only [cpnS, sumH, if_true]
    omega
theorem cpn_in {r : Reg} (h : RegOk r) (y : Int) : 0 ≤ cpnM r y ∧ cpnM r y ≤ 12000000000000000 := by
  have h1 := cpnS_in (secs := r.secs) y (l := r.hs) fun x hx => ⟨h.hld x hx, (h.known x hx).2.1⟩
  have h2 := h.debt_in
  unfold debtM at h2
  unfold cpnM
  omega

/-! ### The service -/
/-- The interest on an amount for a year. -/
def intM (a q : Int) : Int := (2 * a * q + 100000) / 200000
theorem intM_zero (q : Int) : intM 0 q = 0 := by unfold intM; simp
theorem intM_none (a : Int) : intM a 0 = 0 := by unfold intM; simp
theorem intM_mono {a p q : Int} (ha : 0 ≤ a) (h : p ≤ q) : intM a p ≤ intM a q := by
  unfold intM
  have := Int.mul_le_mul_of_nonneg_left h (show 0 ≤ 2 * a by omega)
  omega
theorem intM_in {a q : Int} (a0 : 0 ≤ a) (a1 : a ≤ 20000000000000) (q0 : 0 ≤ q) (q1 : q ≤ 20000) : 0 ≤ 2 * a * q ∧ 2 * a * q ≤ 800000000000000000 ∧ 0 ≤ intM a q ∧ intM a q ≤ 4000000000001 := by
  have h1 := Int.mul_nonneg (show 0 ≤ 2 * a by omega) q0
  have h2 : 2 * a * q ≤ 2 * a * 20000 := Int.mul_le_mul_of_nonneg_left q1 (by omega)
  unfold intM
  generalize 2 * a * q = p at *
  omega
structure Srv where
  year : Int
  int : Int
  prin : Int
  debt : Int
def srvC (x : Srv) : List Value := [.int .i64 x.year, .int .i64 x.int, .int .i64 x.prin, .int .i64 x.debt]
theorem srvF : Fields srvC 4 := ⟨fun _ => rfl, fun _ u hu => by simp only [srvC, List.mem_cons, List.mem_nil_iff, or_false] at hu; rcases hu with rfl | rfl | rfl | rfl <;> rfl, by decide⟩
/-- What has been raised ahead of a year. -/
def raisedM (r : Reg) (first : Int) : Nat → Int
  | 0 => 0
  | i + 1 => fallsM r (first + (i : Int)) + raisedM r first i
theorem raised_below (r : Reg) (first : Int) : ∀ i : Nat, raisedM r first i + belowM r first = belowM r (first + (i : Int))
  | 0 => by simp [raisedM]
  | i + 1 => by
    have ih := raised_below r first i
    have h1 := below_succ r (first + (i : Int))
    rw [show first + ((i + 1 : Nat) : Int) = first + (i : Int) + 1 by omega]
    simp only [raisedM]
    omega
theorem raised_in {r : Reg} (h : RegOk r) (first : Int) (i : Nat) : 0 ≤ raisedM r first i ∧ raisedM r first i ≤ debtM r.hs := by
  have h1 := raised_below r first i
  have h2 := below_in h first
  have h3 := below_in h (first + (i : Int))
  have h4 : ∀ i : Nat, 0 ≤ raisedM r first i := fun i => by
    induction i with
    | zero => simp [raisedM]
    | succ i ih => have := falls_in h (first + (i : Int)); simp only [raisedM]; omega
  have := h4 i
  omega
/-- The rate that is paid in a year: that of the year before. -/
def rateAt (rates : List Int) : Nat → Int
  | 0 => 0
  | i + 1 => rates.getD i 0
def RatesOk (rates : List Int) : Prop := ∀ q ∈ rates, 0 ≤ q ∧ q ≤ 20000
theorem rateAt_in {rates : List Int} (h : RatesOk rates) : ∀ i, 0 ≤ rateAt rates i ∧ rateAt rates i ≤ 20000
  | 0 => by simp [rateAt]
  | i + 1 => by
    show 0 ≤ rates.getD i 0 ∧ rates.getD i 0 ≤ 20000
    rw [List.getD_eq_getElem?_getD]
    cases hq : rates[i]? with
    | none => simp
    | some q => exact h q (List.mem_of_getElem? hq)
def srvM (r : Reg) (first : Int) (rates : List Int) (i : Nat) : Srv :=
  ⟨first + (i : Int), cpnM r (first + (i : Int)) + intM (raisedM r first i) (rateAt rates i), raisedM r first (i + 1), laterM r (first + (i : Int)) + raisedM r first (i + 1)⟩
def projL (r : Reg) (first : Int) (rates : List Int) (n : Nat) : List Srv := (List.range n).map (srvM r first rates)
theorem projL_len (r : Reg) (first : Int) (rates : List Int) (n : Nat) : (projL r first rates n).length = n := by simp [projL]
theorem projL_snoc (r : Reg) (first : Int) (rates : List Int) (n : Nat) : projL r first rates (n + 1) = projL r first rates n ++ [srvM r first rates n] := by simp [projL, List.range_succ]
theorem projL_get (r : Reg) (first : Int) (rates : List Int) (n i : Nat) (h : i < (projL r first rates n).length) : (projL r first rates n)[i] = srvM r first rates i := by simp [projL]
/-- What a projection from the beginning on is. -/
theorem debt_same {r : Reg} (h : RegOk r) (rates : List Int) (i : Nat) : (srvM r 0 rates i).debt = debtM r.hs := by
  have h1 := raised_below r 0 (i + 1)
  have h2 := later_all r (0 + (i : Int))
  have h3 := below_succ r (0 + (i : Int))
  have h4 := below_zero h
  rw [show (0 : Int) + ((i + 1 : Nat) : Int) = 0 + (i : Int) + 1 by omega] at h1
  simp only [srvM]
  omega
theorem srv_in {r : Reg} (h : RegOk r) {first : Int} {rates : List Int} (hq : RatesOk rates) (i : Nat) : 0 ≤ (srvM r first rates i).int ∧ (srvM r first rates i).int ≤ 12004000000000001 ∧ 0 ≤ (srvM r first rates i).prin ∧ (srvM r first rates i).prin ≤ 20000000000000 := by
  have h1 := cpn_in h (first + (i : Int))
  have h2 := raised_in h first i
  have h3 := rateAt_in hq i
  have h4 := raised_in h first (i + 1)
  have h5 := h.debt_in
  have h6 := intM_in h2.1 (by omega) h3.1 h3.2
  simp only [srvM]
  omega
theorem prin_mono {r : Reg} (h : RegOk r) (first : Int) (rates : List Int) (i : Nat) : (srvM r first rates i).prin ≤ (srvM r first rates (i + 1)).prin := by
  have := falls_in h (first + ((i + 1 : Nat) : Int))
  show raisedM r first (i + 1) ≤ fallsM r (first + ((i + 1 : Nat) : Int)) + raisedM r first (i + 1)
  omega

/-! ### What another path costs -/
def costM (r : Reg) (first : Int) (A B : List Int) : Nat → Int
  | 0 => 0
  | i + 1 => costM r first A B i + ((srvM r first B i).int - (srvM r first A i).int)
theorem cost_in {r : Reg} (h : RegOk r) {first : Int} {A B : List Int} (ha : RatesOk A) (hb : RatesOk B) : ∀ i : Nat, -12004000000000001 * (i : Int) ≤ costM r first A B i ∧ costM r first A B i ≤ 12004000000000001 * (i : Int)
  | 0 => by simp [costM]
  | i + 1 => by
    have ih := cost_in h (first := first) ha hb i
    have h1 := srv_in h (first := first) ha i
    have h2 := srv_in h (first := first) hb i
    simp only [costM]
    omega
theorem cost_up {r : Reg} (h : RegOk r) {first : Int} {A B : List Int} (hab : ∀ i, rateAt A i ≤ rateAt B i) : ∀ i : Nat, 0 ≤ costM r first A B i
  | 0 => by simp [costM]
  | i + 1 => by
    have ih := cost_up h (first := first) hab i
    have h1 := intM_mono (raised_in h first i).1 (hab i)
    simp only [costM, srvM]
    omega
theorem cost_down {r : Reg} (h : RegOk r) {first : Int} {A B : List Int} (hab : ∀ i, rateAt B i ≤ rateAt A i) : ∀ i : Nat, costM r first A B i ≤ 0
  | 0 => by simp [costM]
  | i + 1 => by
    have ih := cost_down h (first := first) hab i
    have h1 := intM_mono (raised_in h first i).1 (hab i)
    simp only [costM, srvM]
    omega
/-- A rate that is shifted, as far as rates can be. -/
def shiftM (d q : Int) : Int := max 0 (min (q + d) 20000)
theorem shift_in (d : Int) (l : List Int) : RatesOk (l.map (shiftM d)) := fun q hq => by
  rw [List.mem_map] at hq
  obtain ⟨p, -, rfl⟩ := hq
  unfold shiftM
  omega
theorem rateAt_map {d : Int} {l : List Int} {R : Int → Int → Prop} (h0 : R 0 0) (h : ∀ q ∈ l, R q (shiftM d q)) : ∀ i, R (rateAt l i) (rateAt (l.map (shiftM d)) i)
  | 0 => h0
  | i + 1 => by
    show R (l.getD i 0) ((l.map (shiftM d)).getD i 0)
    rw [List.getD_eq_getElem?_getD, List.getD_eq_getElem?_getD, List.getElem?_map]
    cases hq : l[i]? with
    | none => simpa using h0
    | some q => exact h q (List.mem_of_getElem? hq)
theorem cost_shift_up {r : Reg} (h : RegOk r) {first d : Int} {l : List Int} (hl : RatesOk l) (hd : 0 ≤ d) (i : Nat) : 0 ≤ costM r first l (l.map (shiftM d)) i :=
  cost_up h (rateAt_map (R := fun a b => a ≤ b) (Int.le_refl _) fun q hq => by have := hl q hq; unfold shiftM; omega) i
theorem cost_shift_down {r : Reg} (h : RegOk r) {first d : Int} {l : List Int} (hl : RatesOk l) (hd : d ≤ 0) (i : Nat) : costM r first l (l.map (shiftM d)) i ≤ 0 :=
  cost_down h (rateAt_map (R := fun a b => b ≤ a) (Int.le_refl _) fun q hq => by have := hl q hq; unfold shiftM; omega) i

/-! ### The average term -/
def termN (secs : List Sec) (day : Int) : List Hld → Int
  | [] => 0
  | h :: l => (if day < (secAt secs h.sec).mat then h.amt * ((secAt secs h.sec).mat - day) else 0) + termN secs day l
def termD (secs : List Sec) (day : Int) : List Hld → Int
  | [] => 0
  | h :: l => (if day < (secAt secs h.sec).mat then h.amt else 0) + termD secs day l
theorem termN_app (secs : List Sec) (day : Int) : ∀ l m : List Hld, termN secs day (l ++ m) = termN secs day l + termN secs day m
  | [], m => by simp [termN]
  | h :: l, m => by simp only [List.cons_append, termN, termN_app secs day l m]; omega
theorem termD_app (secs : List Sec) (day : Int) : ∀ l m : List Hld, termD secs day (l ++ m) = termD secs day l + termD secs day m
  | [], m => by simp [termD]
  | h :: l, m => by simp only [List.cons_append, termD, termD_app secs day l m]; omega
theorem term_in {secs : List Sec} {day : Int} (hd : 0 ≤ day) : ∀ {l : List Hld}, (∀ h ∈ l, HldOk h ∧ SecR (secAt secs h.sec)) → 0 ≤ termD secs day l ∧ termD secs day l ≤ sumH (fun _ => true) l ∧ 0 ≤ termN secs day l ∧ termN secs day l ≤ 36000 * sumH (fun _ => true) l
  | [], _ => by simp [termD, termN, sumH]
  | h :: l, k => by
    have ih := term_in (secs := secs) hd (l := l) fun x hx => k x (List.mem_cons_of_mem _ hx)
    obtain ⟨k1, k2⟩ := k h List.mem_cons_self
    have h1 := k1.amt
    have h2 := k2.mat
    simp only [termD, termN, sumH, if_true]
    split
    · rename_i hm
      have h3 := Int.mul_nonneg (show 0 ≤ h.amt by omega) (show 0 ≤ (secAt secs h.sec).mat - day by omega)
      have h4 : h.amt * ((secAt secs h.sec).mat - day) ≤ h.amt * 36000 := Int.mul_le_mul_of_nonneg_left (by omega) (by omega)
      omega
    · omega
/-- The nearest and the farthest maturity bound the sums. -/
theorem term_between {secs : List Sec} {day near far : Int} : ∀ {l : List Hld}, (∀ h ∈ l, HldOk h) → (∀ h ∈ l, day < (secAt secs h.sec).mat → near ≤ (secAt secs h.sec).mat - day ∧ (secAt secs h.sec).mat - day ≤ far) → near * termD secs day l ≤ termN secs day l ∧ termN secs day l ≤ far * termD secs day l
  | [], _, _ => by simp [termD, termN]
  | h :: l, k, b => by
    have ih := term_between (near := near) (far := far) (l := l) (fun x hx => k x (List.mem_cons_of_mem _ hx)) fun x hx => b x (List.mem_cons_of_mem _ hx)
    have h1 := (k h List.mem_cons_self).amt
    have h2 := b h List.mem_cons_self
    simp only [termD, termN]
    split
    · rename_i hm
      obtain ⟨h3, h4⟩ := h2 hm
      have h5 := Int.mul_le_mul_of_nonneg_left h3 (show 0 ≤ h.amt by omega)
      have h6 := Int.mul_le_mul_of_nonneg_left h4 (show 0 ≤ h.amt by omega)
      rw [Int.mul_add, Int.mul_add, Int.mul_comm near h.amt, Int.mul_comm far h.amt]
      omega
    · simpa using ih

end Go.Proofs.Ytblidmkkbcobgaa

/- Contracts of package money's range tests. -/
set_option linter.unusedSimpArgs false
set_option linter.unusedVariables false
namespace Go.Proofs.Ytblidmkkbcobgaa
open Go.RowKit Go.Lib Go.Proofs

set_option maxHeartbeats 400000 in
theorem within_any (n lo hi : Int) (w : World) :
    Calls Try.prog 120 #[.int .i64 n, .int .i64 lo, .int .i64 hi] w fun e w' => e = .returned (.bool (inB n lo hi)) ∧ w = w' := by
  by_cases h1 : lo ≤ n
  · by_cases h2 : n ≤ hi
    · rw [show inB n lo hi = true from inB_true.2 ⟨h1, h2⟩]
      go_enter Try.func120, Try.ntmps120
      go_wp2
      go_ret
      exact ⟨rfl, rfl⟩
    · rw [show inB n lo hi = false from inB_false.2 (fun q => h2 q.2)]
      go_enter Try.func120, Try.ntmps120
      go_wp2
      go_ret
      exact ⟨rfl, rfl⟩
  · rw [show inB n lo hi = false from inB_false.2 (fun q => h1 q.1)]
    go_enter Try.func120, Try.ntmps120
    go_wp2
    go_ret
    exact ⟨rfl, rfl⟩
theorem within_yes {n lo hi : Int} (w : World) (h1 : lo ≤ n) (h2 : n ≤ hi) : Calls Try.prog 120 #[.int .i64 n, .int .i64 lo, .int .i64 hi] w fun e w' => e = .returned (.bool true) ∧ w = w' := by
  have := within_any n lo hi w; rw [inB_true.2 ⟨h1, h2⟩] at this; exact this
theorem within_no {n lo hi : Int} (w : World) (h : ¬ (lo ≤ n ∧ n ≤ hi)) : Calls Try.prog 120 #[.int .i64 n, .int .i64 lo, .int .i64 hi] w fun e w' => e = .returned (.bool false) ∧ w = w' := by
  have := within_any n lo hi w; rw [inB_false.2 h] at this; exact this
theorem within_eq {n lo hi : Int} {c : Bool} (h : inB n lo hi = c) (w : World) : Calls Try.prog 120 #[.int .i64 n, .int .i64 lo, .int .i64 hi] w fun e w' => e = .returned (.bool c) ∧ w = w' := by
  have := within_any n lo hi w; rw [h] at this; exact this

set_option maxHeartbeats 400000 in
theorem Valid_any (n : Int) (w : World) : Calls Try.prog 118 #[.int .i64 n] w fun e w' => e = .returned (.bool (inB n (0) 1000000000000)) ∧ w = w' := by
  go_enter Try.func118, Try.ntmps118
  go_wp2_with (go_at_call 120; refine (within_any _ _ _ _).mono ?_; rintro e w' ⟨rfl, rfl⟩)
  go_ret
  exact ⟨rfl, rfl⟩
theorem Valid_yes {n : Int} (w : World) (h0 : 0 ≤ n) (h1 : n ≤ 1000000000000) : Calls Try.prog 118 #[.int .i64 n] w fun e w' => e = .returned (.bool true) ∧ w = w' := by
  have := Valid_any n w; rw [inB_true.2 ⟨h0, h1⟩] at this; exact this

end Go.Proofs.Ytblidmkkbcobgaa
