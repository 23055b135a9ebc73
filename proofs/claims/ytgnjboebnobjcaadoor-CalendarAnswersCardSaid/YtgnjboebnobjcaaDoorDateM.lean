/- Plain mathematics of the texts of days: cutting at the minus signs, reading the numbers; of no program; no condition. -/
import Derived.Test.YtgnjboebnobjcaaDoorCalT
import Derived.Lib.Split
import Derived.Lib.AtoiAll
import Derived.Lib.IndexBytes
namespace Go.Proofs.YtgnjboebnobjcaaDoor
open Go.RowKit Go.Lib Go.Proofs

theorem dec_three (n : Nat) (h : 100 ≤ n) (h1 : n < 1000) : decDigits n = [UInt8.ofNat (48 + n / 100), UInt8.ofNat (48 + n / 10 % 10), UInt8.ofNat (48 + n % 10)] := by
  rw [decDigits, dif_neg (by omega), dec_two _ (by omega) (by omega), show n / 10 / 10 = n / 100 by omega]
  rfl

/-- The digits of a number below 1000. -/
theorem dec_cases (n : Nat) (h : n < 1000) : decDigits n = if n < 10 then [UInt8.ofNat (48 + n)] else if n < 100 then [UInt8.ofNat (48 + n / 10), UInt8.ofNat (48 + n % 10)] else [UInt8.ofNat (48 + n / 100), UInt8.ofNat (48 + n / 10 % 10), UInt8.ofNat (48 + n % 10)] := by
  split
  · exact dec_one n (by omega)
  · split
    · exact dec_two n (by omega) (by omega)
    · exact dec_three n (by omega) h

def digitB (c : UInt8) : Bool := decide (48 ≤ c.toNat ∧ c.toNat ≤ 57)

theorem ofNat_toNat (n : Nat) (h : n < 10) : (UInt8.ofNat (48 + n)).toNat = 48 + n := by
  rw [UInt8.toNat_ofNat']
  omega
theorem digit_ofNat (n : Nat) (h : n < 10) : digitB (UInt8.ofNat (48 + n)) = true := by
  unfold digitB
  rw [ofNat_toNat n h, decide_eq_true_eq]
  omega
theorem dec_digits (n : Nat) (h : n < 1000) : ∀ c ∈ decDigits n, digitB c = true := by
  rw [dec_cases n h]
  intro c hc
  split at hc
  · simp only [List.mem_cons, List.mem_nil_iff, or_false] at hc; subst hc; exact digit_ofNat _ (by omega)
  · split at hc
    · simp only [List.mem_cons, List.mem_nil_iff, or_false] at hc; rcases hc with rfl | rfl <;> exact digit_ofNat _ (by omega)
    · simp only [List.mem_cons, List.mem_nil_iff, or_false] at hc; rcases hc with rfl | rfl | rfl <;> exact digit_ofNat _ (by omega)

def twoL (n : Nat) : List UInt8 := [UInt8.ofNat (48 + n / 10), UInt8.ofNat (48 + n % 10)]
theorem two_digits (n : Nat) (h : n < 100) : ∀ c ∈ twoL n, digitB c = true := by
  intro c hc
  simp only [twoL, List.mem_cons, List.mem_nil_iff, or_false] at hc
  rcases hc with rfl | rfl <;> exact digit_ofNat _ (by omega)

theorem no_minus {l : List UInt8} (h : ∀ c ∈ l, digitB c = true) : (45 : UInt8) ∉ l := fun hm => by
  have := h 45 hm
  revert this
  decide

theorem textB_list (y m k : Nat) : (textB y m k).data.toList = decDigits y ++ 45 :: (twoL m ++ 45 :: twoL k) := by
  unfold textB decB twoB twoL
  simp [ByteArray.data_append]

theorem indexByte_at : ∀ (l r : List UInt8), (45 : UInt8) ∉ l → indexByte (l ++ 45 :: r) 45 = l.length
  | [], r, _ => by simp [indexByte]
  | c :: l, r, h => by
    have hc : c ≠ 45 := fun e => h (by simp [e])
    have := indexByte_at l r (fun hm => h (by simp [hm]))
    simp only [List.cons_append, indexByte]
    rw [this]
    simp [hc]
theorem indexByte_no : ∀ (l : List UInt8), (45 : UInt8) ∉ l → indexByte l 45 = -1
  | [], _ => by simp [indexByte]
  | c :: l, h => by
    have hc : c ≠ 45 := fun e => h (by simp [e])
    have := indexByte_no l (fun hm => h (by simp [hm]))
    simp only [indexByte]
    rw [this]
    simp [hc]

theorem split_three (a b c : List UInt8) (ha : (45 : UInt8) ∉ a) (hb : (45 : UInt8) ∉ b) (hc : (45 : UInt8) ∉ c) : splitK [45] 0 3 (a ++ 45 :: (b ++ 45 :: c)) = [a, b, c] := by
  have e1 : index (a ++ 45 :: (b ++ 45 :: c)) [45] = a.length := by rw [index_one, indexByte_at _ _ ha]
  have e2 : index (b ++ 45 :: c) [45] = b.length := by rw [index_one, indexByte_at _ _ hb]
  have e3 : index c [45] = -1 := by rw [index_one, indexByte_no _ hc]
  have n1 : ∀ n : Nat, ((n : Int) == -1) = false := fun n => by rw [beq_eq_false_iff_ne]; omega
  rw [splitK, e1, n1, if_neg (by simp), splitK]
  have d1 : (a ++ 45 :: (b ++ 45 :: c)).drop ((a.length : Int).toNat + [(45 : UInt8)].length) = b ++ 45 :: c := by simp
  rw [d1, e2, n1, if_neg (by simp), splitK]
  have d2 : (b ++ 45 :: c).drop ((b.length : Int).toNat + [(45 : UInt8)].length) = c := by simp
  rw [d2, e3]
  simp

theorem atoi_one (p : Nat) (h : p < 10) : atoiAll [UInt8.ofNat (48 + p)] = .ok (p : Int) := by
  have : ∀ p : Fin 10, atoiAll [UInt8.ofNat (48 + p.val)] = .ok (p.val : Int) := by decide
  exact this ⟨p, h⟩
theorem atoi_two (p q : Nat) (h : p < 10) (hq : q < 10) : atoiAll [UInt8.ofNat (48 + p), UInt8.ofNat (48 + q)] = .ok ((10 * p + q : Nat) : Int) := by
  have : ∀ p q : Fin 10, atoiAll [UInt8.ofNat (48 + p.val), UInt8.ofNat (48 + q.val)] = .ok ((10 * p.val + q.val : Nat) : Int) := by decide +kernel
  exact this ⟨p, h⟩ ⟨q, hq⟩
theorem atoi_three (p q r : Nat) (h : p < 10) (hq : q < 10) (hr : r < 10) : atoiAll [UInt8.ofNat (48 + p), UInt8.ofNat (48 + q), UInt8.ofNat (48 + r)] = .ok ((100 * p + 10 * q + r : Nat) : Int) := by
  have : ∀ p q r : Fin 10, atoiAll [UInt8.ofNat (48 + p.val), UInt8.ofNat (48 + q.val), UInt8.ofNat (48 + r.val)] = .ok ((100 * p.val + 10 * q.val + r.val : Nat) : Int) := by decide +kernel
  exact this ⟨p, h⟩ ⟨q, hq⟩ ⟨r, hr⟩

theorem atoi_dec (n : Nat) (h : n < 1000) : atoiAll (decDigits n) = .ok (n : Int) := by
  rw [dec_cases n h]
  split
  · exact atoi_one n (by omega)
  · split
    · rw [atoi_two _ _ (by omega) (by omega)]; congr 2; omega
    · rw [atoi_three _ _ _ (by omega) (by omega) (by omega)]; congr 2; omega
theorem atoi_twoL (n : Nat) (h : n < 100) : atoiAll (twoL n) = .ok (n : Int) := by
  unfold twoL
  rw [atoi_two _ _ (by omega) (by omega)]; congr 2; omega

/-- The text of day d. -/
def dayText (d : Nat) : ByteArray := textB (d / 360) (d % 360 / 30 + 1) (d % 30 + 1)

theorem dayText_list (d : Nat) : (dayText d).data.toList = decDigits (d / 360) ++ 45 :: (twoL (d % 360 / 30 + 1) ++ 45 :: twoL (d % 30 + 1)) := textB_list _ _ _

/-- Different days have different texts. -/
theorem dayText_inj {d e : Nat} (hd : d ≤ 36000) (he : e ≤ 36000) (h : dayText d = dayText e) : d = e := by
  have h1 := congrArg (fun s : ByteArray => splitK [45] 0 3 s.data.toList) h
  simp only [dayText_list] at h1
  have nm : ∀ n, n < 1000 → (45 : UInt8) ∉ decDigits n := fun n hn => no_minus (dec_digits n hn)
  have nt : ∀ n, n < 100 → (45 : UInt8) ∉ twoL n := fun n hn => no_minus (two_digits n hn)
  rw [split_three _ _ _ (nm _ (by omega)) (nt _ (by omega)) (nt _ (by omega)), split_three _ _ _ (nm _ (by omega)) (nt _ (by omega)) (nt _ (by omega))] at h1
  simp only [List.cons.injEq, and_true] at h1
  obtain ⟨a, b, c⟩ := h1
  have a' := congrArg atoiAll a
  have b' := congrArg atoiAll b
  have c' := congrArg atoiAll c
  rw [atoi_dec _ (by omega), atoi_dec _ (by omega)] at a'
  rw [atoi_twoL _ (by omega), atoi_twoL _ (by omega)] at b' c'
  injection a' with a'
  injection b' with b'
  injection c' with c'
  omega

/-- What the reference reads first: up to f digits. -/
def leadGo : List UInt8 → Nat → Nat → Nat
  | c :: r, f + 1, n => if digitB c = true then leadGo r f (10 * n + (c.toNat - 48)) else n
  | _, _, n => n

theorem lead_dec (n : Nat) (h : n < 1000) (r : List UInt8) : leadGo (decDigits n ++ 45 :: r) 4 0 = n := by
  have hm : digitB 45 = false := by decide
  have hd : ∀ m, m < 10 → digitB (UInt8.ofNat (48 + m)) = true := digit_ofNat
  rw [dec_cases n h]
  split
  · simp only [List.cons_append, List.nil_append, leadGo, hm]
    rw [if_pos (hd _ (by omega)), ofNat_toNat _ (by omega)]
    simp
  · split
    · simp only [List.cons_append, List.nil_append, leadGo, hm]
      rw [if_pos (hd _ (by omega)), if_pos (hd _ (by omega)), ofNat_toNat _ (by omega), ofNat_toNat _ (by omega)]
      simp
      omega
    · simp only [List.cons_append, List.nil_append, leadGo, hm]
      rw [if_pos (hd _ (by omega)), if_pos (hd _ (by omega)), if_pos (hd _ (by omega)), ofNat_toNat _ (by omega), ofNat_toNat _ (by omega), ofNat_toNat _ (by omega)]
      simp
      omega

/-- The reference's first number of a day's text is its year. -/
theorem lead_day (d : Nat) (h : d ≤ 36000) : leadGo (dayText d).data.toList 4 0 = d / 360 := by
  rw [dayText_list]; exact lead_dec _ (by omega) _

end Go.Proofs.YtgnjboebnobjcaaDoor
