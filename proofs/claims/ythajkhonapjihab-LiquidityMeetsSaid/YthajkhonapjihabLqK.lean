/- Contracts of package liquidity's functions of lists of positions, up to Make: for a band that is valid, and positions on days that ascend. -/
import Derived.Test.YthajkhonapjihabSfPos
import Derived.Test.YthajkhonapjihabLqD
import Derived.Shelf.Abstract
set_option linter.unusedSimpArgs false
set_option linter.unusedVariables false
namespace Go.Proofs.Ythajkhonapjihab
open Go.RowKit Go.Lib Go.Proofs

set_option maxHeartbeats 400000 in
theorem lqtotalsC_any (p : Pos) (w : World) : Calls Try.prog 77 #[.agg (posC p).toArray] w fun e w' => e = .returned (.bool (!inB p.amt (-1000000000000000) 1000000000000000)) ∧ Below w.heap.size w w' := by
  obtain ⟨d, a⟩ := p
  simp only [posC]
  go_enter Try.func77, Try.ntmps77
  go_wp2_with (go_at_call 73; refine (Total_any _ _).mono ?_; rintro e w' ⟨rfl, rfl⟩)
  go_ret
  exact ⟨rfl, below_alloc w _⟩

/-- Positions by value, their days and amounts in bounds. -/
structure PosIn (l : List Pos) : Prop where
  amt : ∀ p ∈ l, -1000000000000000 ≤ p.amt ∧ p.amt ≤ 1000000000000000
  day : ∀ p ∈ l, 0 ≤ p.day ∧ p.day ≤ 36000
  asc : ∀ i (h : i < l.length), 0 < i → ∀ hi : i - 1 < l.length, l[i - 1].day < l[i].day
  len : l.length ≤ 1000

theorem posIn_of {a : Int} {l : List Pos} (h : PosOk a 0 l) (ha : a ≤ 1000000) (hl : l.length ≤ 1000) : PosIn l :=
  ⟨fun p hp => by
    obtain ⟨i, hi, rfl⟩ := List.getElem_of_mem hp
    obtain ⟨h1, h2, h3, h4, _⟩ := posOk_get h i hi
    omega,
   fun p hp => by
    obtain ⟨i, hi, rfl⟩ := List.getElem_of_mem hp
    obtain ⟨h1, h2, h3, h4, _⟩ := posOk_get h i hi
    omega,
   fun i hi h0 hj => (posOk_get h i hi).2.2.2.2 h0 hj, hl⟩

set_option maxHeartbeats 400000 in
theorem lqtotals_ok {l : List Pos} (h : PosIn l) (v : Value) (w : World) (hv : ListAt posC 2 w v l) : Calls Try.prog 51 #[v] w fun e w' => e = .returned (.bool true) ∧ Below w.heap.size w w' := by
  have HC := Lib.hid (posContains_any 77 #[] (enters_of Try.func77 (by kernel_rfl) rfl) (fun p => !inB p.amt (-1000000000000000) 1000000000000000) l v w hv (by have := h.len; omega) fun x _ W _ => by
    have := lqtotalsC_any x W
    simpa using this)
  rw [show (l.any fun p => !inB p.amt (-1000000000000000) 1000000000000000) = false from List.any_eq_false.2 fun x hx => by rw [inB_true.2 (h.amt x hx)]; simp] at HC
  clear h hv
  go_enter Try.func51, Try.ntmps51
  go_wp2_with fail
  refine (HC.out).mono ?_
  rintro e w1 ⟨rfl, hb⟩
  go_wp2
  go_ret
  exact ⟨rfl, hb⟩

set_option maxHeartbeats 400000 in
theorem lqdayOf_any (d a : Int) (w : World) : Calls Try.prog 48 #[.agg #[.int .i64 d, .int .i64 a]] w fun e w' => e = .returned (.int .i64 d) ∧ Below w.heap.size w w' := by
  go_enter Try.func48, Try.ntmps48
  go_wp2
  go_ret
  exact ⟨rfl, below_alloc w _⟩

def daysP (l : List Pos) : List Int := l.map Pos.day
theorem daysP_len (l : List Pos) : (daysP l).length = l.length := by simp [daysP]

/-- What days hands back: the days, in new memory. -/
def DaysPPost (l : List Pos) (w : World) (e : Ending) (w' : World) : Prop := ∃ v, e = .returned v ∧ w'.ownsRow w.heap.size 3 1 v l.length (cellsI (daysP l)) ∧ Below w.heap.size w w'

set_option maxHeartbeats 4000000 in
theorem lqdaysP_ok (l : List Pos) (hlen : l.length ≤ 1000) (v : Value) (w : World) (hv : ListAt posC 2 w v l) : Calls Try.prog 47 #[v, .func (.func 48) #[] #[]] w (DaysPPost l w) := by
  obtain ⟨i0, hi0, hz0, hz1, hz2⟩ := info_parts Try.infoInt
  obtain ⟨ao, cap, rfl, hcap, hc⟩ := hv.shape posF
  obtain ⟨n, hn⟩ : ∃ n, n = l.length := ⟨_, rfl⟩
  have HN := Lib.hid hn
  have HC := Lib.hid hc
  have HD := Lib.hid lqdayOf_any
  have eg := enters_of Try.func48 (by kernel_rfl) rfl
  unfold DaysPPost
  rw [← hn] at hlen hcap ⊢
  clear hn hv hc
  have hnl : (daysP l).length = n := by rw [daysP_len, HN.out]
  have HNL := Lib.hid hnl
  clear hnl
  go_enter Try.func47, Try.ntmps47
  go_wp2_with (at_make; refine wpList_make_full _ rfl _ _ 22 rfl w.heap.size 3 i0 (.int .i64 0) 1 Try.underlying22 hi0 hz0 hz1 .i64 .i64 _ _ n rfl rfl rfl rfl (by rw [hz2]; omega) (by unfold maxLen; omega) (by simp) ?_; intro w1 hown hgrow)
  have hbel : Below w.heap.size w w1 := (Below.refl _ _).grown hgrow (Nat.le_refl _) (by simp)
  rw [show (madeCells (Value.int .i64 0).cells (n * 1)).toList = upTo (daysP l) 0 from by rw [upTo_zero, HNL.out, Nat.mul_one]; exact toList_madeCells_one _ _] at hown
  clear hgrow
  go_loopw [13] (fun c wr => ∃ k : Nat, k ≤ n ∧ c = .int .i64 k ∧ wr.ownsRow w.heap.size 3 1 (.slice (some ⟨w.heap.size, 0, none⟩) n n) n (upTo (daysP l) k) ∧ Below w.heap.size w wr) (fun c _ => n - (RowKit.intOf c).toNat)
  case atStart => exact ⟨0, Nat.zero_le _, rfl, hown, hbel⟩
  case round =>
    clear hown hbel
    obtain ⟨k, hk, rfl, hown, hbel⟩ := hrel
    by_cases hlt : k < n
    · have hlx : k < l.length := by rw [← HN.out]; exact hlt
      obtain ⟨b, o, rfl, hb, hcc⟩ := HC.out (by omega)
      have hcell := fun j (hj : j < 2) => (hbel.cell (p := ⟨b, o + k * 2 + j, none⟩) hb).trans (hcc k hlx j hj)
      obtain ⟨x, hx⟩ : ∃ x, x = l[k] := ⟨_, rfl⟩
      rw [← hx] at hcell
      have HX : Hid ((daysP l).getD k 0 = x.day) := Lib.hid (by rw [hx]; simp [daysP, hlx])
      clear hx hcc
      obtain ⟨d, a⟩ := x
      have c0 := hcell 0 (by omega)
      have c1 := hcell 1 (by omega)
      simp [posC] at c0 c1
      have hk0 : (0 : Int) ≤ (k : Int) := by omega
      have hk1 : (k : Int) < (n : Int) := by omega
      have HOW := Lib.hid hown
      have HBL := Lib.hid hbel
      clear hcell HC hown hbel
      go_wp2_with fail
      with_reducible refine (HD.out _ _ _).mono ?_
      rintro e w2 ⟨rfl, hb2⟩
      have own2 := ownsRow_below (HOW.out.alloc _) hb2
      have hcl := own2.cellAt k (by omega)
      rw [upTo_get _ k (by rw [HNL.out]; exact hlt)] at hcl
      have hfr := own2.frozenAt k
      have HO2 := Lib.hid own2
      have HB2 := Lib.hid ((HBL.out.alloc HBL.out.size _).trans (hb2.mono (by have := HBL.out.size; simp; omega)))
      clear own2 hb2 HOW HBL
      go_wp2
      go_roundw
      case rel =>
        obtain ⟨h1, h2⟩ := HO2.out.stored k (.int .i64 d)
        rw [upTo_set _ k (by rw [HNL.out]; exact hlt) d HX.out.symm] at h1
        exact ⟨k + 1, by omega, by first | rfl | go_num, h1, HB2.out.grown h2 HB2.out.size (by simp)⟩
      case measure => simp [RowKit.intOf]; omega
    · obtain rfl : k = n := by omega
      rw [show upTo (daysP l) k = cellsI (daysP l) by rw [← HNL.out]; exact upTo_full _] at hown
      clear HC
      go_wp2
      go_ret
      exact ⟨_, rfl, hown, hbel⟩


end Go.Proofs.Ythajkhonapjihab
