/- The days of plans, binary search on days, whether a plan has a position. -/
import Derived.Test.YthajkhonapjihabLqN
import Derived.Test.YthajkhonapjihabSfInt
import Derived.Test.YthajkhonapjihabNums1
import Derived.Test.YthajkhonapjihabShelf
import Derived.Shelf.Abstract
set_option linter.unusedSimpArgs false
set_option linter.unusedVariables false
namespace Go.Proofs.Ythajkhonapjihab
open Go.RowKit Go.Lib Go.Proofs

set_option maxRecDepth 100000 in
set_option maxHeartbeats 400000 in
theorem lqdayOfL_any (d r p : Int) (w : World) : Calls Try.prog 50 #[.agg #[.int .i64 d, .int .i64 r, .int .i64 p]] w fun e w' => e = .returned (.int .i64 d) ∧ Below w.heap.size w w' := by
  go_enter Try.func50, Try.ntmps50
  go_wp2
  go_ret
  exact ⟨rfl, below_alloc w _⟩

def daysL (l : List Pl) : List Int := l.map Pl.day
theorem daysL_len (l : List Pl) : (daysL l).length = l.length := by simp [daysL]

/-- What days hands back: the days, in new memory. -/
def DaysLPost (l : List Pl) (w : World) (e : Ending) (w' : World) : Prop := ∃ v, e = .returned v ∧ w'.ownsRow w.heap.size 3 1 v l.length (cellsI (daysL l)) ∧ Below w.heap.size w w'

set_option maxRecDepth 100000 in
set_option maxHeartbeats 4000000 in
theorem lqdaysL_ok (l : List Pl) (hlen : l.length ≤ 1000) (v : Value) (w : World) (hv : ListAt plC 3 w v l) : Calls Try.prog 49 #[v, .func (.func 50) #[] #[]] w (DaysLPost l w) := by
  obtain ⟨i0, hi0, hz0, hz1, hz2⟩ := info_parts Try.infoInt
  obtain ⟨ao, cap, rfl, hcap, hc⟩ := hv.shape plF
  obtain ⟨n, hn⟩ : ∃ n, n = l.length := ⟨_, rfl⟩
  have HN := Lib.hid hn
  have HC := Lib.hid hc
  have HD := Lib.hid lqdayOfL_any
  have eg := enters_of Try.func50 (by kernel_rfl) rfl
  unfold DaysLPost
  rw [← hn] at hlen hcap ⊢
  clear hn hv hc
  have hnl : (daysL l).length = n := by rw [daysL_len, HN.out]
  have HNL := Lib.hid hnl
  clear hnl
  go_enter Try.func49, Try.ntmps49
  go_wp2_with (at_make; refine wpList_make_full _ rfl _ _ 22 rfl w.heap.size 3 i0 (.int .i64 0) 1 Try.underlying22 hi0 hz0 hz1 .i64 .i64 _ _ n rfl rfl rfl rfl (by rw [hz2]; omega) (by unfold maxLen; omega) (by simp) ?_; intro w1 hown hgrow)
  have hbel : Below w.heap.size w w1 := (Below.refl _ _).grown hgrow (Nat.le_refl _) (by simp)
  rw [show (madeCells (Value.int .i64 0).cells (n * 1)).toList = upTo (daysL l) 0 from by rw [upTo_zero, HNL.out, Nat.mul_one]; exact toList_madeCells_one _ _] at hown
  clear hgrow
  go_loopw [13] (fun c wr => ∃ k : Nat, k ≤ n ∧ c = .int .i64 k ∧ wr.ownsRow w.heap.size 3 1 (.slice (some ⟨w.heap.size, 0, none⟩) n n) n (upTo (daysL l) k) ∧ Below w.heap.size w wr) (fun c _ => n - (RowKit.intOf c).toNat)
  case atStart => exact ⟨0, Nat.zero_le _, rfl, hown, hbel⟩
  case round =>
    clear hown hbel
    obtain ⟨k, hk, rfl, hown, hbel⟩ := hrel
    by_cases hlt : k < n
    · have hlx : k < l.length := by rw [← HN.out]; exact hlt
      obtain ⟨b, o, rfl, hb, hcc⟩ := HC.out (by omega)
      have hcell := fun j (hj : j < 3) => (hbel.cell (p := ⟨b, o + k * 3 + j, none⟩) hb).trans (hcc k hlx j hj)
      obtain ⟨x, hx⟩ : ∃ x, x = l[k] := ⟨_, rfl⟩
      rw [← hx] at hcell
      have HX : Hid ((daysL l).getD k 0 = x.day) := Lib.hid (by rw [hx]; simp [daysL, hlx])
      clear hx hcc
      obtain ⟨d, r, p⟩ := x
      have c0 := hcell 0 (by omega)
      have c1 := hcell 1 (by omega)
      have c2 := hcell 2 (by omega)
      simp [plC] at c0 c1 c2
      have hk0 : (0 : Int) ≤ (k : Int) := by omega
      have hk1 : (k : Int) < (n : Int) := by omega
      have HOW := Lib.hid hown
      have HBL := Lib.hid hbel
      clear hcell HC hown hbel
      go_wp2_with fail
      with_reducible refine (HD.out _ _ _ _).mono ?_
      rintro e w2 ⟨rfl, hb2⟩
      have own2 := ownsRow_below (HOW.out.alloc _) hb2
      have hcl := own2.cellAt k (by omega)
      rw [upTo_get _ k (by rw [HNL.out]; exact hlt)] at hcl
      have hfr := own2.frozenAt k
      have HO2 := Lib.hid own2
      have HB2 := Lib.hid ((HBL.out.alloc HBL.out.size _).trans (hb2.mono (by have := HBL.out.size; simp; omega)))
      clear own2 hb2 HOW HBL
      go_wp2
      go_roundw
      case rel =>
        obtain ⟨h1, h2⟩ := HO2.out.stored k (.int .i64 d)
        rw [upTo_set _ k (by rw [HNL.out]; exact hlt) d HX.out.symm] at h1
        exact ⟨k + 1, by omega, by first | rfl | go_num, h1, HB2.out.grown h2 HB2.out.size (by simp)⟩
      case measure => simp [RowKit.intOf]; omega
    · obtain rfl : k = n := by omega
      rw [show upTo (daysL l) k = cellsI (daysL l) by rw [← HNL.out]; exact upTo_full _] at hown
      clear HC
      go_wp2
      go_ret
      exact ⟨_, rfl, hown, hbel⟩



theorem nums_list {w : World} {v : Value} {l : List Int} : NumsAt w v l ↔ ListAt intC 1 w v l := by
  unfold NumsAt ListAt
  rw [cellsL_int]

/-- Binary search on numbers that ascend. -/
theorem bs_any (l : List Int) (x : Int) (v : Value) (w : World) (hv : NumsAt w v l) (hlen : l.length ≤ 1000000) (hs : l.Pairwise (· ≤ ·)) :
    Calls Try.prog 56 #[v, .int .i64 x] w fun e w' => e = .returned (.tuple #[.int .i64 ((l.countP (· < x) : Nat) : Int), .bool (l.contains x)]) ∧ Below w.heap.size w w' := by
  obtain ⟨ao, cap, rfl, hcap, hc⟩ := hv.shape
  by_cases h0 : l.length = 0
  · obtain rfl := List.length_eq_zero_iff.1 h0
    exact (Try.slices_BinarySearch_int_empty ao cap x w).mono fun e w' h => by
      obtain ⟨h1, h2⟩ := h
      subst h2
      exact ⟨h1, Below.refl _ _⟩
  · obtain ⟨b, o, rfl, hb, hcc⟩ := hc (by omega)
    refine (Try.slices_BinarySearch_int b o l.length cap l x w (Nat.le_refl _) (by omega) hcc (by rw [List.take_length]; exact hs)).mono ?_
    rintro e w' ⟨h1, q, rfl⟩
    rw [List.take_length] at h1
    exact ⟨h1, below_drewN (Below.refl _ _) q⟩

def coveredB (ps ls : List Int) : Bool := ls.all fun d => ps.contains d
theorem lqcoveredC_any (ps : List Int) (hlen : ps.length ≤ 1000000) (hs : ps.Pairwise (· ≤ ·)) (b : Nat) (v : Value) (d : Int) (W : World) (hb : W.cell? ⟨b, 0, none⟩ = some v) (hv : NumsAt W v ps) :
    Calls Try.prog 80 #[.int .i64 d, .pointer (some ⟨b, 0, none⟩)] W fun e W' => e = .returned (.bool (!ps.contains d)) ∧ Below W.heap.size W W' := by
  obtain ⟨ao, cap, rfl, hcap, -⟩ := hv.shape
  have HB := Lib.hid (bs_any ps d (.slice ao ps.length cap) W hv hlen hs)
  generalize ps.contains d = c at *
  generalize ps.countP (· < d) = q at *
  generalize ps.length = n at *
  clear hv hs
  cases c with
  | true =>
    go_enter Try.func80, Try.ntmps80
    go_wp2_with fail
    refine (HB.out).mono ?_
    rintro e w1 ⟨rfl, hb1⟩
    go_wp2
    go_ret
    exact ⟨rfl, hb1⟩
  | false =>
    go_enter Try.func80, Try.ntmps80
    go_wp2_with fail
    refine (HB.out).mono ?_
    rintro e w1 ⟨rfl, hb1⟩
    go_wp2
    go_ret
    exact ⟨rfl, hb1⟩

end Go.Proofs.Ythajkhonapjihab
