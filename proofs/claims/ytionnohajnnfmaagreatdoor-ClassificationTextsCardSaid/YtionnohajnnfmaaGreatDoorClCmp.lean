/- Contracts of slices.Compare and slices.Equal for slices of int, and of classification.Compare, Under, isCode, covers: the order of codes, for texts of up to 10^6 bytes. -/
import Derived.Test.YtionnohajnnfmaaGreatDoorClParts
namespace Go.Proofs.YtionnohajnnfmaaGreatDoor
open Go.RowKit Go.Lib Go.Proofs

/-- The order of two lists of numbers. -/
def cmpL : List Int → List Int → Int
  | [], [] => 0
  | [], _ :: _ => -1
  | _ :: _, [] => 1
  | x :: xs, y :: ys => if x < y then -1 else if y < x then 1 else cmpL xs ys

theorem cmpL_drop {xs ys : List Int} {k : Nat} (hx : k < xs.length) (hy : k < ys.length) :
    cmpL (xs.drop k) (ys.drop k) = if xs.getD k 0 < ys.getD k 0 then -1 else if ys.getD k 0 < xs.getD k 0 then 1 else cmpL (xs.drop (k + 1)) (ys.drop (k + 1)) := by
  rw [List.drop_eq_getElem_cons hx, List.drop_eq_getElem_cons hy, getD_eq hx, getD_eq hy]
  rfl

theorem cmpL_le_nil (l : List Int) : cmpL l [] = if l = [] then 0 else 1 := by cases l <;> rfl
theorem cmpL_nil_le (l : List Int) : cmpL [] l = if l = [] then 0 else -1 := by cases l <;> rfl

theorem int3 (x y : Int) : compareInt x y = if x < y then -1 else if y < x then 1 else 0 := by unfold compareInt; rfl

set_option maxRecDepth 100000 in
set_option maxHeartbeats 2000000 in
/-- slices.Compare where the first list is empty. -/
theorem slCompareI_nil (ao ao' : Option Addr) (c c' m : Nat) (ys : List Int) (hm : ys.length = m) (hm1 : m ≤ 1000000) (w : World) :
    Calls Tryz.prog 83 #[.slice ao 0 c, .slice ao' m c'] w fun e w' => e = .returned (.int .i64 (cmpL [] ys)) ∧ w = w' := by
  by_cases h0 : m = 0
  · subst h0
    have hy : ys = [] := List.length_eq_zero_iff.1 hm
    subst hy
    go_enter Tryz.func83, Tryz.ntmps83
    go_wp2
    go_loop [11] (fun i => i = .int .i64 0) (fun _ => 0)
    case atStart => rfl
    case round =>
      subst hrel
      go_wp2
      go_ret
      exact ⟨rfl, rfl⟩
  · have hc : cmpL [] ys = -1 := by rw [cmpL_nil_le, if_neg (fun e => h0 (by rw [← hm, e]; rfl))]
    rw [hc]
    have hpos : (0 : Int) < (m : Int) := by omega
    clear hc hm
    go_enter Tryz.func83, Tryz.ntmps83
    go_wp2
    go_loop [11] (fun i => i = .int .i64 0) (fun _ => 0)
    case atStart => rfl
    case round =>
      subst hrel
      go_wp2
      go_ret
      exact ⟨rfl, rfl⟩

set_option maxRecDepth 100000 in
set_option maxHeartbeats 2000000 in
/-- slices.Compare where the first list has numbers. -/
theorem slCompareI_some (b o c : Nat) (ao' : Option Addr) (c' n m : Nat) (xs ys : List Int) (hn : xs.length = n) (hm : ys.length = m) (hn1 : n ≤ 1000000) (hm1 : m ≤ 1000000) (w : World)
    (hx : ∀ i, i < n → w.cell? ⟨b, o + i, none⟩ = some (.int .i64 (xs.getD i 0)))
    (hy : m = 0 ∨ ∃ b' o', ao' = some ⟨b', o', none⟩ ∧ ∀ i, i < m → w.cell? ⟨b', o' + i, none⟩ = some (.int .i64 (ys.getD i 0))) :
    Calls Tryz.prog 83 #[.slice (some ⟨b, o, none⟩) n c, .slice ao' m c'] w fun e w' => e = .returned (.int .i64 (cmpL xs ys)) ∧ w = w' := by
  have HX := Lib.hid hx
  have HN := Lib.hid hn
  have HM := Lib.hid hm
  have HCC := Lib.hid (fun x y => Tryz.cmp_Compare_int x y w)
  clear hx hn hm
  rcases hy with rfl | ⟨b', o', rfl, hy⟩
  · have hys : ys = [] := List.length_eq_zero_iff.1 HM.out
    subst hys
    clear HM
    by_cases h0 : n = 0
    · subst h0
      have hxs : xs = [] := List.length_eq_zero_iff.1 HN.out
      subst hxs
      go_enter Tryz.func83, Tryz.ntmps83
      go_wp2
      go_loop [11] (fun i => i = .int .i64 0) (fun _ => 0)
      case atStart => rfl
      case round =>
        subst hrel
        go_wp2
        go_ret
        exact ⟨rfl, rfl⟩
    · have hc : cmpL xs [] = 1 := by rw [cmpL_le_nil, if_neg (fun e => h0 (by rw [← HN.out, e]; rfl))]
      rw [hc]
      have hpos : (0 : Int) < (n : Int) := by omega
      have hc0 := HX.out 0 (by omega)
      rw [Nat.add_zero] at hc0
      clear hc
      go_enter Tryz.func83, Tryz.ntmps83
      go_wp2
      go_loop [11] (fun i => i = .int .i64 0) (fun _ => 0)
      case atStart => rfl
      case round =>
        subst hrel
        go_wp2
        go_ret
        exact ⟨rfl, rfl⟩
  · have HY := Lib.hid hy
    clear hy
    obtain ⟨r, hr⟩ : ∃ r, cmpL xs ys = r := ⟨_, rfl⟩
    rw [hr]
    have HR := Lib.hid hr
    clear hr
    go_enter Tryz.func83, Tryz.ntmps83
    go_wp2
    go_loop [11] (fun i => ∃ k : Nat, i = .int .i64 k ∧ k ≤ n ∧ k ≤ m ∧ Hid (cmpL (xs.drop k) (ys.drop k) = r)) (fun i => n - (RowKit.intOf i).toNat)
    case atStart => exact ⟨0, rfl, by omega, by omega, Lib.hid HR.out⟩
    case round =>
      obtain ⟨k, rfl, hkn, hkm, HK⟩ := hrel
      by_cases hlt : k < n
      · by_cases hlt2 : k < m
        · have c1 := HX.out k hlt
          have c2 := HY.out k hlt2
          have hd := cmpL_drop (xs := xs) (ys := ys) (k := k) (by rw [HN.out]; exact hlt) (by rw [HM.out]; exact hlt2)
          rw [HK.out] at hd
          have hcc := HCC.out (xs.getD k 0) (ys.getD k 0)
          rw [int3] at hcc
          generalize xs.getD k 0 = x at *
          generalize ys.getD k 0 = y at *
          by_cases h1 : x < y
          · rw [if_pos h1] at hd hcc
            have HD := Lib.hid hd
            have HC := Lib.hid hcc
            clear hd hcc
            go_wp2_with (go_at_call 66; refine (HC.out).mono ?_; rintro e w' ⟨rfl, rfl⟩)
            go_ret
            exact ⟨ret_int HD.out.symm, rfl⟩
          · rw [if_neg h1] at hd hcc
            by_cases h2 : y < x
            · rw [if_pos h2] at hd hcc
              have HD := Lib.hid hd
              have HC := Lib.hid hcc
              clear hd hcc
              go_wp2_with (go_at_call 66; refine (HC.out).mono ?_; rintro e w' ⟨rfl, rfl⟩)
              go_ret
              exact ⟨ret_int HD.out.symm, rfl⟩
            · rw [if_neg h2] at hd hcc
              have HD := Lib.hid hd
              have HC := Lib.hid hcc
              clear hd hcc
              go_wp2_with (go_at_call 66; refine (HC.out).mono ?_; rintro e w' ⟨rfl, rfl⟩)
              go_round
              case rel => exact ⟨k + 1, by go_num, by omega, by omega, Lib.hid HD.out.symm⟩
              case measure => simp [RowKit.intOf]; omega
        · obtain rfl : k = m := by omega
          have hr1 : r = 1 := by
            have := HK.out
            rw [List.drop_eq_nil_of_le (show ys.length ≤ k by rw [HM.out]; exact Nat.le_refl _), cmpL_le_nil, if_neg] at this
            · exact this.symm
            · intro e
              have := congrArg List.length e
              simp [HN.out] at this
              omega
          have c1 := HX.out k hlt
          subst hr1
          have hge : (k : Int) ≤ (k : Int) := Int.le_refl _
          go_wp2
          go_ret
          exact ⟨rfl, rfl⟩
      · obtain rfl : k = n := by omega
        have hr1 : r = if k < m then -1 else 0 := by
          have := HK.out
          rw [List.drop_eq_nil_of_le (show xs.length ≤ k by rw [HN.out]; exact Nat.le_refl _), cmpL_nil_le] at this
          rw [← this]
          by_cases hkm2 : k < m
          · rw [if_pos hkm2, if_neg]
            intro e
            have := congrArg List.length e
            simp [HM.out] at this
            omega
          · rw [if_neg hkm2, if_pos (List.drop_eq_nil_of_le (by rw [HM.out]; omega))]
        by_cases hkm2 : k < m
        · rw [if_pos hkm2] at hr1
          subst hr1
          have hlt3 : (k : Int) < (m : Int) := by omega
          go_wp2
          go_ret
          exact ⟨rfl, rfl⟩
        · rw [if_neg hkm2] at hr1
          subst hr1
          have hlt3 : (m : Int) ≤ (k : Int) := by omega
          go_wp2
          go_ret
          exact ⟨rfl, rfl⟩

theorem owned_ints {w : World} {base n : Nat} {v : Value} {l : List Int} (h : w.ownsRow base 3 1 v n (cellsI l)) :
    ∃ ao cap, v = .slice ao n cap ∧ n ≤ cap ∧ l.length = n ∧ (n = 0 ∨ ∃ g, ao = some ⟨g, 0, none⟩ ∧ g < w.heap.size ∧ base ≤ g ∧ ∀ i, i < n → w.cell? ⟨g, 0 + i, none⟩ = some (.int .i64 (l.getD i 0))) := by
  have hl : l.length = n := by have := h.1; simpa [cellsI] using this
  rcases h.2 with ⟨hv, h0⟩ | ⟨g, cap, cur, hv, hg, hh, hnc, _⟩
  · exact ⟨none, 0, by rw [hv, h0], by omega, hl, Or.inl h0⟩
  · refine ⟨some ⟨g, 0, none⟩, cap, hv, hnc, hl, Or.inr ⟨g, rfl, ?_, hg, fun i hi => ?_⟩⟩
    · by_cases hlt : g < w.heap.size
      · exact hlt
      · rw [Array.getElem?_eq_none (by omega)] at hh; cases hh
    · subst hv
      rw [Nat.zero_add, h.cellAt i (by omega), cellsI_get l i (by omega)]

theorem partsN_len (s : ByteArray) : (partsN s).length ≤ 4 := by
  unfold partsN
  split
  · split
    · assumption
    · simp
  · simp

/-- The order of codes; texts that are no codes come before them, in the order of their bytes. -/
def cmpCode (a b : ByteArray) : Int := if partsN a = [] ∧ partsN b = [] then compareBytes a.data.toList b.data.toList else cmpL (asInts (partsN a)) (asInts (partsN b))

def isCodeB (s : ByteArray) : Bool := decide (partsN s ≠ [])

set_option maxHeartbeats 2000000 in
theorem clisCode_any (s : ByteArray) (w : World) (hL : Lay w) (hs : s.size ≤ 1000000) :
    Calls Tryz.prog 80 #[.string s] w fun e w' => e = .returned (.bool (isCodeB s)) ∧ Below w.heap.size w w' := by
  have hP := clParts_any s w hL hs
  have hl := partsN_len s
  have hd : ∀ n : Nat, (partsN s).length = n → isCodeB s = decide ((0 : Int) < (n : Int)) := fun n hn => by
    unfold isCodeB
    subst hn
    rw [decide_eq_decide]
    cases partsN s <;> simp <;> omega
  obtain ⟨r, hr⟩ : ∃ r, isCodeB s = r := ⟨_, rfl⟩
  rw [hr]
  have hd' : ∀ n : Nat, (partsN s).length = n → r = decide ((0 : Int) < (n : Int)) := fun n hn => hr.symm.trans (hd n hn)
  have HP := Lib.hid hP
  have HD := Lib.hid hd'
  clear hP hd hd' hr hL
  go_enter Tryz.func80, Tryz.ntmps80
  go_wp2_with fail
  refine (HP.out).mono ?_
  rintro e w1 ⟨v, rfl, ho, hb⟩
  obtain ⟨ao, cap, rfl, _, hll, _⟩ := owned_ints ho
  obtain ⟨n, hn⟩ : ∃ n, (partsN s).length = n := ⟨_, rfl⟩
  have hdn := HD.out n hn
  rw [hn] at hll hl ho ⊢
  subst hdn
  clear ho hll hn
  go_wp2
  go_ret
  exact ⟨by simp, hb⟩

theorem clisCode_yes {s : ByteArray} (w : World) (hL : Lay w) (hs : s.size ≤ 1000000) (h : isCodeB s = true) : Calls Tryz.prog 80 #[.string s] w fun e w' => e = .returned (.bool true) ∧ Below w.heap.size w w' := by
  have := clisCode_any s w hL hs; rwa [h] at this
theorem clisCode_no {s : ByteArray} (w : World) (hL : Lay w) (hs : s.size ≤ 1000000) (h : isCodeB s = false) : Calls Tryz.prog 80 #[.string s] w fun e w' => e = .returned (.bool false) ∧ Below w.heap.size w w' := by
  have := clisCode_any s w hL hs; rwa [h] at this

set_option maxRecDepth 100000 in
set_option maxHeartbeats 4000000 in
theorem clCompare_any (a b : ByteArray) (w : World) (hL : Lay w) (ha : a.size ≤ 1000000) (hb : b.size ≤ 1000000) :
    Calls Tryz.prog 45 #[.string a, .string b] w fun e w' => e = .returned (.int .i64 (cmpCode a b)) ∧ Below w.heap.size w w' := by
  have HP := Lib.hid (clParts_any a w hL ha)
  have HQ := Lib.hid (fun w' (h : Below w.heap.size w w') => clParts_any b w' (hL.below h (Nat.le_refl _)) hb)
  have HS := Lib.hid (fun w => Tryz.strings_Compare a b w)
  have hla := partsN_len a
  have hlb := partsN_len b
  obtain ⟨r, hr⟩ : ∃ r, cmpCode a b = r := ⟨_, rfl⟩
  rw [hr]
  unfold cmpCode at hr
  have HR := Lib.hid hr
  clear hr hL
  go_enter Tryz.func45, Tryz.ntmps45
  go_wp2_with fail
  refine (HP.out).mono ?_
  rintro e w1 ⟨v, rfl, ho, hb1⟩
  have HB1 := Lib.hid hb1
  have HO := Lib.hid ho
  clear hb1 ho
  go_wp2_with fail
  refine (HQ.out _ HB1.out).mono ?_
  rintro e w2 ⟨u, rfl, ho2, hb2⟩
  have ho1 := ownsRow_below HO.out hb2
  have HB2 := Lib.hid (HB1.out.trans (hb2.mono HB1.out.size))
  clear hb2 HO HB1 HP HQ
  obtain ⟨ao, c, rfl, _, hl1, hx⟩ := owned_ints ho1
  obtain ⟨ao', c', rfl, _, hl2, hy⟩ := owned_ints ho2
  clear ho1 ho2
  obtain ⟨xs, hxs⟩ : ∃ xs, xs = asInts (partsN a) := ⟨_, rfl⟩
  obtain ⟨ys, hys⟩ : ∃ ys, ys = asInts (partsN b) := ⟨_, rfl⟩
  obtain ⟨n, hn⟩ : ∃ n, n = (partsN a).length := ⟨_, rfl⟩
  obtain ⟨m, hm⟩ : ∃ m, m = (partsN b).length := ⟨_, rfl⟩
  have hA : partsN a = [] ↔ n = 0 := by rw [hn]; exact List.length_eq_zero_iff.symm
  have hB : partsN b = [] ↔ m = 0 := by rw [hm]; exact List.length_eq_zero_iff.symm
  have hr := HR.out
  simp only [hA, hB] at hr
  rw [← hxs, ← hys] at hr
  rw [← hxs] at hx hl1
  rw [← hys] at hy hl2
  rw [← hn] at hx hl1 hla ⊢
  rw [← hm] at hy hl2 hlb ⊢
  clear HR hA hB hxs hys hn hm
  by_cases h0 : n = 0
  · subst h0
    by_cases h1 : m = 0
    · subst h1
      rw [if_pos ⟨rfl, rfl⟩] at hr
      subst hr
      clear hx hy hl1 hl2
      go_wp2_with fail
      refine (HS.out _).mono ?_
      rintro e w3 ⟨rfl, rfl⟩
      go_wp2
      go_ret
      exact ⟨rfl, HB2.out⟩
    · rw [if_neg (fun h => h1 h.2)] at hr
      have hxs : xs = [] := List.length_eq_zero_iff.1 hl1
      subst hxs
      have HC := Lib.hid (slCompareI_nil ao ao' c c' m ys hl2 (by omega) w2)
      have h1' : ((m : Int) == 0) = false := by rw [beq_eq_false_iff_ne]; omega
      clear hx hy hl1 hl2
      go_wp2_with fail
      refine (HC.out).mono ?_
      rintro e w3 ⟨rfl, rfl⟩
      go_wp2
      go_ret
      exact ⟨rfl, HB2.out⟩
  · rw [if_neg (fun h => h0 h.1)] at hr
    have h0' : ((n : Int) == 0) = false := by rw [beq_eq_false_iff_ne]; omega
    rcases hx with hx | ⟨g, rfl, hg, _, hx⟩
    · exact absurd hx h0
    have HC := Lib.hid (slCompareI_some g 0 c ao' c' n m xs ys hl1 hl2 (by omega) (by omega) w2 hx (hy.imp id fun ⟨g', h1, _, _, h2⟩ => ⟨g', 0, h1, h2⟩))
    clear hx hy hl1 hl2
    go_wp2_with fail
    refine (HC.out).mono ?_
    rintro e w3 ⟨rfl, rfl⟩
    go_wp2
    go_ret
    exact ⟨rfl, HB2.out⟩

/-- Go's test of a string against the empty one, as the walk spells it. -/
theorem strNil_true {a : ByteArray} (h : a = ⟨#[]⟩) : a.toList = [] := by subst h; rw [ByteArray.toList_eq]
theorem strNil_false {a : ByteArray} (h : a ≠ ⟨#[]⟩) : ¬ a.toList = [] := fun e => h (bytes_ext (by rw [← ByteArray.toList_eq, e]))

/-- A code lies under another one. -/
def underB (code top : ByteArray) : Bool := decide (0 < (partsN top).length) && (decide ((partsN top).length ≤ (partsN code).length) && ((asInts (partsN code)).take (partsN top).length == asInts (partsN top)))

theorem underB_iff {code top : ByteArray} : underB code top = true ↔ partsN top ≠ [] ∧ partsN top <+: partsN code := by
  unfold underB
  simp only [Bool.and_eq_true, decide_eq_true_eq, beq_iff_eq, List.length_pos_iff]
  have hinj : ∀ {x y : List Nat}, asInts x = asInts y → x = y := fun {x y} h => by
    have := congrArg (List.map Int.toNat) h
    simpa [asInts, Function.comp_def] using this
  constructor
  · rintro ⟨h1, h2, h3⟩
    refine ⟨h1, ?_⟩
    have : asInts ((partsN code).take (partsN top).length) = asInts (partsN top) := by rw [← h3]; simp [asInts, List.map_take]
    rw [← hinj this]
    exact List.take_prefix _ _
  · rintro ⟨h1, r, h2⟩
    refine ⟨h1, by rw [← h2]; simp, ?_⟩
    rw [← h2]
    simp [asInts]

set_option maxRecDepth 100000 in
set_option maxHeartbeats 4000000 in
theorem clUnder_any (a b : ByteArray) (w : World) (hL : Lay w) (ha : a.size ≤ 1000000) (hb : b.size ≤ 1000000) :
    Calls Tryz.prog 46 #[.string a, .string b] w fun e w' => e = .returned (.bool (underB a b)) ∧ Below w.heap.size w w' := by
  have HP := Lib.hid (clParts_any a w hL ha)
  have HQ := Lib.hid (fun w' (h : Below w.heap.size w w') => clParts_any b w' (hL.below h (Nat.le_refl _)) hb)
  have hla := partsN_len a
  have hlb := partsN_len b
  obtain ⟨r, hr⟩ : ∃ r, underB a b = r := ⟨_, rfl⟩
  rw [hr]
  unfold underB at hr
  have HR := Lib.hid hr
  clear hr hL
  go_enter Tryz.func46, Tryz.ntmps46
  go_wp2_with fail
  refine (HP.out).mono ?_
  rintro e w1 ⟨v, rfl, ho, hb1⟩
  have HB1 := Lib.hid hb1
  have HO := Lib.hid ho
  clear hb1 ho
  go_wp2_with fail
  refine (HQ.out _ HB1.out).mono ?_
  rintro e w2 ⟨u, rfl, ho2, hb2⟩
  have ho1 := ownsRow_below HO.out hb2
  have HB2 := Lib.hid (HB1.out.trans (hb2.mono HB1.out.size))
  clear hb2 HO HB1 HP HQ
  obtain ⟨ao, c, rfl, hnc, hl1, hx⟩ := owned_ints ho1
  obtain ⟨ao', c', rfl, _, hl2, hy⟩ := owned_ints ho2
  clear ho1 ho2
  obtain ⟨xs, hxs⟩ : ∃ xs, xs = asInts (partsN a) := ⟨_, rfl⟩
  obtain ⟨ys, hys⟩ : ∃ ys, ys = asInts (partsN b) := ⟨_, rfl⟩
  obtain ⟨n, hn⟩ : ∃ n, n = (partsN a).length := ⟨_, rfl⟩
  obtain ⟨m, hm⟩ : ∃ m, m = (partsN b).length := ⟨_, rfl⟩
  have hr := HR.out
  rw [← hxs, ← hys, ← hn, ← hm] at hr
  rw [← hxs] at hx hl1
  rw [← hys] at hy hl2
  rw [← hn] at hx hl1 hla hnc ⊢
  rw [← hm] at hy hl2 hlb ⊢
  clear HR hxs hys hn hm
  by_cases h1 : m = 0
  · subst h1
    have hr' : r = false := by rw [← hr]; simp
    subst hr'
    clear hx hy hl1 hl2 hr
    go_wp2
    go_ret
    exact ⟨rfl, HB2.out⟩
  · have hm0 : (0 : Int) < (m : Int) := by omega
    by_cases h2 : m ≤ n
    · have hmn : (m : Int) ≤ (n : Int) := by omega
      rcases hx with hx | ⟨g, rfl, hg, _, hx⟩
      · omega
      rcases hy with hy | ⟨g', rfl, hg', _, hy⟩
      · omega
      have hr' : r = (xs.take m == ys.take m) := by
        rw [← hr, decide_eq_true (by omega), decide_eq_true h2, Bool.true_and, Bool.true_and, List.take_of_length_le (l := ys) (by omega)]
      have HC := Lib.hid (Tryz.slices_Equal_int g 0 m c g' 0 m c' xs ys w2 (by omega) (by omega) (by omega) (by omega) (fun j hj => hx j (by omega)) (fun j hj => hy j (by omega)))
      rw [← hr'] at HC
      have hmc : m ≤ c := by omega
      clear hx hy hl1 hl2 hr hr'
      go_wp2_with fail
      refine (HC.out).mono ?_
      rintro e w3 ⟨rfl, q, rfl⟩
      go_wp2
      go_ret
      exact ⟨rfl, below_drewN HB2.out q⟩
    · have hr' : r = false := by rw [← hr, decide_eq_false h2]; simp
      subst hr'
      have hmn : (n : Int) < (m : Int) := by omega
      clear hx hy hl1 hl2 hr
      go_wp2
      go_ret
      exact ⟨rfl, HB2.out⟩

/-- What has a code counts for top: it lies under it, or top is empty. -/
def coversB (top code : ByteArray) : Bool := decide (top = ⟨#[]⟩) || underB code top

set_option maxHeartbeats 2000000 in
theorem clcovers_any (a b : ByteArray) (w : World) (hL : Lay w) (ha : a.size ≤ 1000000) (hb : b.size ≤ 1000000) :
    Calls Tryz.prog 86 #[.string a, .string b] w fun e w' => e = .returned (.bool (coversB a b)) ∧ Below w.heap.size w w' := by
  unfold coversB
  by_cases h : a = ⟨#[]⟩
  · have h1 := strNil_true h
    rw [decide_eq_true h, Bool.true_or]
    clear h hL
    go_enter Tryz.func86, Tryz.ntmps86
    go_wp2
    go_ret
    exact ⟨rfl, Below.refl _ _⟩
  · have h1 := strNil_false h
    have HU := Lib.hid (clUnder_any b a w hL hb ha)
    rw [decide_eq_false h, Bool.false_or]
    generalize underB b a = r at *
    clear h hL
    go_enter Tryz.func86, Tryz.ntmps86
    go_wp2_with fail
    refine (HU.out).mono ?_
    rintro e w1 ⟨rfl, hb1⟩
    go_wp2
    go_ret
    have h2 : a.toList.isEmpty = false := by simpa using h1
    exact ⟨by simp [h2], hb1⟩

end Go.Proofs.YtionnohajnnfmaaGreatDoor
