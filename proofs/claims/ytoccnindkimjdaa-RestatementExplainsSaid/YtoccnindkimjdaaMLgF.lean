/- Contracts of package ledger's functions of one posting: within, Class, Posting, follows, Turn. -/
import Derived.Test.YtoccnindkimjdaaMG1
import Derived.Test.YtoccnindkimjdaaMPut
import Derived.Test.YtoccnindkimjdaaMMonF
import Derived.Test.YtoccnindkimjdaaMSfun
set_option linter.unusedSimpArgs false
set_option linter.unusedVariables false
set_option linter.unusedSimpArgs false
set_option linter.unusedVariables false
namespace Go.Proofs.Ytoccnindkimjdaa
open Go.RowKit Go.Lib Go.Proofs

set_option maxHeartbeats 400000 in
theorem lgwithin_any (n lo hi : Int) (w : World) :
    Calls Try.prog 69 #[.int .i64 n, .int .i64 lo, .int .i64 hi] w fun e w' => e = .returned (.bool (inB n lo hi)) ∧ w = w' := by
  by_cases h1 : lo ≤ n
  · by_cases h2 : n ≤ hi
    · rw [show inB n lo hi = true from inB_true.2 ⟨h1, h2⟩]
      go_enter Try.func69, Try.ntmps69
      go_wp2
      go_ret
      exact ⟨rfl, rfl⟩
    · rw [show inB n lo hi = false from inB_false.2 (fun q => h2 q.2)]
      go_enter Try.func69, Try.ntmps69
      go_wp2
      go_ret
      exact ⟨rfl, rfl⟩
  · rw [show inB n lo hi = false from inB_false.2 (fun q => h1 q.1)]
    go_enter Try.func69, Try.ntmps69
    go_wp2
    go_ret
    exact ⟨rfl, rfl⟩
theorem lgwithin_yes {n lo hi : Int} (w : World) (h1 : lo ≤ n) (h2 : n ≤ hi) : Calls Try.prog 69 #[.int .i64 n, .int .i64 lo, .int .i64 hi] w fun e w' => e = .returned (.bool true) ∧ w = w' := by
  have := lgwithin_any n lo hi w; rw [inB_true.2 ⟨h1, h2⟩] at this; exact this
theorem lgwithin_no {n lo hi : Int} (w : World) (h : ¬ (lo ≤ n ∧ n ≤ hi)) : Calls Try.prog 69 #[.int .i64 n, .int .i64 lo, .int .i64 hi] w fun e w' => e = .returned (.bool false) ∧ w = w' := by
  have := lgwithin_any n lo hi w; rw [inB_false.2 h] at this; exact this

set_option maxHeartbeats 400000 in
theorem lgClass_any (a : Int) (w : World) :
    Calls Try.prog 65 #[.int .i64 a] w fun e w' => e = .returned (.int .i64 (classM a)) ∧ w = w' := by
  by_cases h : 100 ≤ a ∧ a ≤ 599
  · obtain ⟨h1, h2⟩ := h
    have hc : IntKind.i64.wrap (a.tdiv 100) = classM a := by
      unfold classM
      rw [if_pos ⟨h1, h2⟩, Int.tdiv_eq_ediv_of_nonneg (by omega)]
      exact IntWalk.i64_in _ (by omega)
    go_enter Try.func65, Try.ntmps65
    go_wp2_with (go_at_call 69; refine (lgwithin_yes _ h1 h2).mono ?_; rintro e w' ⟨rfl, rfl⟩)
    go_ret
    exact ⟨by first | rfl | rw [← hc], rfl⟩
  · rw [show classM a = 0 from if_neg h]
    go_enter Try.func65, Try.ntmps65
    go_wp2_with (go_at_call 69; refine (lgwithin_no _ h).mono ?_; rintro e w' ⟨rfl, rfl⟩)
    go_ret
    exact ⟨rfl, rfl⟩
theorem classM_pos {a : Int} (h : 100 ≤ a ∧ a ≤ 599) : 0 < classM a ∧ classM a ≤ 5 := by unfold classM; rw [if_pos h]; omega

set_option maxRecDepth 100000 in
set_option maxHeartbeats 4000000 in
theorem lgPosting_right {p : Pst} (h : PstOk p) (w : World) :
    Calls Try.prog 51 #[.agg (pstC p).toArray] w fun e w' => e = .returned (.bool true) ∧ Below w.heap.size w w' := by
  obtain ⟨h1, h2, h3, h4, h5, h6, h7, h8, h9, h10⟩ := h
  obtain ⟨x0, x1, x2, x3, x4, x5, x6, x7⟩ := p
  simp only [pstC] at *
  obtain ⟨c3, hc3, hp3⟩ : ∃ c, classM x3 = c ∧ 0 < c := ⟨_, rfl, (classM_pos h4).1⟩
  obtain ⟨c4, hc4, hp4⟩ : ∃ c, classM x4 = c ∧ 0 < c := ⟨_, rfl, (classM_pos h5).1⟩
  have HC3 := Lib.hid (fun W => lgClass_any x3 W)
  have HC4 := Lib.hid (fun W => lgClass_any x4 W)
  rw [hc3] at HC3
  rw [hc4] at HC4
  clear hc3 hc4
  have h6' : (x3 != x4) = true := by simp [h6]
  have h7' : 0 < x5 := by omega
  have h9' : (x6 != x2) = true := by simp [h9]
  go_enter Try.func51, Try.ntmps51
  go_wp2_with (first
    | (go_at_call 69; refine (lgwithin_yes _ (by omega) (by omega)).mono ?_; rintro e w' ⟨rfl, rfl⟩)
    | (go_at_call 65; (first | refine (HC3.out _).mono ?_ | refine (HC4.out _).mono ?_); rintro e w' ⟨rfl, rfl⟩)
    | (go_at_call 70; refine (Valid_yes _ (by omega) (by omega)).mono ?_; rintro e w' ⟨rfl, rfl⟩))
  go_ret
  exact ⟨rfl, below_alloc w _⟩

set_option maxRecDepth 100000 in
set_option maxHeartbeats 4000000 in
theorem lgfollows_right {p q : Pst} (hn : q.num = p.num + 1) (h1 : 0 ≤ p.num) (h2 : p.num ≤ 1000000) (hd : p.day ≤ q.day) (w : World) :
    Calls Try.prog 52 #[.agg (pstC p).toArray, .agg (pstC q).toArray] w fun e w' => e = .returned (.int .i64 0) ∧ Below w.heap.size w w' := by
  obtain ⟨x0, x1, x2, x3, x4, x5, x6, x7⟩ := p
  obtain ⟨y0, y1, y2, y3, y4, y5, y6, y7⟩ := q
  simp only [pstC] at *
  subst hn
  have hd' : ¬ y1 < x1 := by omega
  have hw : IntKind.i64.wrap (x0 + 1) = x0 + 1 := IntWalk.i64_in _ (by omega)
  go_enter Try.func52, Try.ntmps52
  go_wp2
  go_ret
  exact ⟨rfl, (below_alloc w _).trans ((below_alloc _ _).mono (by simp))⟩

end Go.Proofs.Ytoccnindkimjdaa
