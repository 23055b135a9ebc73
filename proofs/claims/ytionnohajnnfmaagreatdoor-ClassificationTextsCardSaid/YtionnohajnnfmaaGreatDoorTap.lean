/- Contracts of treasurymake's tape: New and N; a tape's numbers are any int64s; what N returns is within its bounds, and only the tape's place has turned. -/
import Derived.Test.YtionnohajnnfmaaGreatDoorBase
namespace Go.Proofs.YtionnohajnnfmaaGreatDoor
open Go.RowKit Go.Lib Go.Proofs

/-- v is a slice of n int64s in the world w, all in blocks below B. -/
def IntsAt (w : World) (v : Value) (n B : Nat) : Prop :=
  ∃ (ao : Option Addr) (cap : Nat), v = .slice ao n cap ∧ n ≤ cap ∧ ∀ i, i < n → ∃ (b o : Nat) (x : Int), ao = some ⟨b, o, none⟩ ∧ b < B ∧ w.cell? ⟨b, o + i, none⟩ = some (.int .i64 x) ∧ -9223372036854775808 ≤ x ∧ x ≤ 9223372036854775807

/-- Block tb is a tape: at most 500 numbers in blocks before it, and its place among them. -/
def TapeAt (w : World) (tb : Nat) : Prop :=
  ∃ (ao : Option Addr) (n cap k : Nat), w.heap[tb]? = some (.cells #[.slice ao n cap, .int .i64 (k : Int)] 57 (0, 0)) ∧ k ≤ n ∧ n ≤ 500 ∧ IntsAt w (.slice ao n cap) n tb

theorem IntsAt.keep {w w' : World} {v : Value} {n B : Nat} (h : IntsAt w v n B) (hk : ∀ k, k < B → w'.heap[k]? = w.heap[k]?) : IntsAt w' v n B := by
  obtain ⟨ao, cap, hv, hc, hx⟩ := h
  refine ⟨ao, cap, hv, hc, fun i hi => ?_⟩
  obtain ⟨b, o, x, h1, h2, h3, h4⟩ := hx i hi
  exact ⟨b, o, x, h1, h2, by rw [World.cell?_of_block (w := w) (hk b h2)]; exact h3, h4⟩

theorem TapeAt.lt {w : World} {tb : Nat} (h : TapeAt w tb) : tb < w.heap.size := by
  obtain ⟨ao, n, cap, k, h1, _⟩ := h
  by_cases hlt : tb < w.heap.size
  · exact hlt
  · rw [Array.getElem?_eq_none (by omega)] at h1; cases h1

theorem TapeAt.keep {w w' : World} {tb : Nat} (h : TapeAt w tb) (hk : ∀ k, k ≤ tb → w'.heap[k]? = w.heap[k]?) : TapeAt w' tb := by
  obtain ⟨ao, n, cap, k, h1, h2, h3, h4⟩ := h
  exact ⟨ao, n, cap, k, by rw [hk tb (Nat.le_refl _)]; exact h1, h2, h3, h4.keep fun j hj => hk j (by omega)⟩

theorem TapeAt.below {w w' : World} {tb : Nat} (h : TapeAt w tb) (hb : Below w.heap.size w w') : TapeAt w' tb :=
  h.keep fun k hk => hb.block k (by have := h.lt; omega)

theorem TapeAt.grown {w w' : World} {tb : Nat} {row : Option Nat} (h : TapeAt w tb) (hg : w.grownBy w' row) (hr : ∀ r, row = some r → tb < r) : TapeAt w' tb :=
  h.keep fun k hk => hg.block k (by have := h.lt; omega) (fun e => by have := hr k e.symm; omega)

/-- What N hands back: a number from 0 to n - 1; only the tape's place has turned. -/
def NPost (tb : Nat) (n : Int) (w : World) (e : Ending) (w' : World) : Prop := ∃ r : Int, e = .returned (.int .i64 r) ∧ 0 ≤ r ∧ r < n ∧ TapeAt w' tb ∧ w.grownBy w' (some tb)

theorem cell_pair {w : World} {tb : Nat} {a b : Value} {T : TypeId} (h : w.heap[tb]? = some (.cells #[a, b] T (0, 0))) : w.cell? ⟨tb, 0, none⟩ = some a ∧ w.cell? ⟨tb, 1, none⟩ = some b ∧ w.frozen? ⟨tb, 1, none⟩ = false := by
  simp [World.cell?, World.frozen?, h]

theorem tape_step {w : World} {tb n cap k : Nat} {ao : Option Addr} (h : w.heap[tb]? = some (.cells #[.slice ao n cap, .int .i64 (k : Int)] 57 (0, 0))) (hk : k < n) (hn : n ≤ 500) (hi : IntsAt w (.slice ao n cap) n tb) (q : Nat) (z : Int) (hz : z = (k + 1 : Nat)) :
    TapeAt ((w.drewN q).setCell ⟨tb, 1, none⟩ (.int .i64 z)) tb ∧ w.grownBy ((w.drewN q).setCell ⟨tb, 1, none⟩ (.int .i64 z)) (some tb) := by
  subst hz
  have hlt : tb < w.heap.size := by
    by_cases hlt : tb < w.heap.size
    · exact hlt
    · rw [Array.getElem?_eq_none (by omega)] at h; cases h
  have hsame : ((w.drewN q).setCell ⟨tb, 1, none⟩ (.int .i64 ((k + 1 : Nat) : Int))).heap[tb]? = some (.cells #[.slice ao n cap, .int .i64 ((k + 1 : Nat) : Int)] 57 (0, 0)) := by
    rw [heap_setCell_same (w.drewN q) tb 1 _ _ _ h]
    rfl
  have hother : ∀ j, j ≠ tb → ((w.drewN q).setCell ⟨tb, 1, none⟩ (.int .i64 ((k + 1 : Nat) : Int))).heap[j]? = w.heap[j]? := fun j hj => Below.heap_setCell (w.drewN q) _ _ j hj
  refine ⟨⟨ao, n, cap, k + 1, hsame, by omega, hn, hi.keep fun j hj => hother j (by omega)⟩, rfl, rfl, rfl, by simp [World.setCell, World.drewN], fun j hj hne => hother j fun e => hne (by rw [e])⟩

set_option maxHeartbeats 1000000 in
theorem N_any (tb : Nat) (n : Int) (w : World) (ht : TapeAt w tb) (hn : 1 ≤ n) (hn1 : n ≤ 4611686018427387904) :
    Calls Tryz.prog 13 #[.pointer (some ⟨tb, 0, none⟩), .int .i64 n] w (NPost tb n w) := by
  obtain ⟨ao, m, cap, k, h1, h2, h3, h4⟩ := ht
  obtain ⟨c0, c1, f1⟩ := cell_pair h1
  by_cases hlt : k < m
  · obtain ⟨ao', cap', hv, hcap, hx⟩ := h4
    obtain ⟨b, o, x, e1, e2, hc, x0, x1⟩ := hx k hlt
    have H1 := Lib.hid h1
    have H4 : Hid (IntsAt w (.slice ao m cap) m tb) := ⟨ao', cap', hv, hcap, hx⟩
    simp only [Value.slice.injEq, true_and] at hv
    obtain ⟨rfl, rfl⟩ := hv
    subst e1
    clear h1 hx
    have r1 : x.tmod n < n := by
      rcases Int.le_total 0 x with hx0 | hx0
      · exact Int.tmod_lt_of_pos _ (by omega)
      · have := Int.tmod_nonneg n (a := -x) (by omega)
        rw [Int.neg_tmod] at this
        omega
    have r2 : -n < x.tmod n := by
      have := Int.tmod_lt_of_pos (-x) (b := n) (by omega)
      rw [Int.neg_tmod] at this
      omega
    have hk0 : (0 : Int) ≤ (k : Int) := by omega
    have hk1 : (k : Int) < (m : Int) := by omega
    have hge : ¬ (m : Int) ≤ (k : Int) := by omega
    go_enter Tryz.func13, Tryz.ntmps13
    go_wp2
    go_quiet (fail)
    go_wp2
    go_quiet (fail)
    generalize x.tmod n = r at *
    by_cases hr0 : r < 0
    · go_wp2
      go_ret
      obtain ⟨t1, t2⟩ := tape_step H1.out hlt h3 H4.out _ ((k : Int) + 1) (by omega)
      exact ⟨r + n, rfl, by omega, by omega, t1, t2⟩
    · go_wp2
      go_ret
      obtain ⟨t1, t2⟩ := tape_step H1.out hlt h3 H4.out _ ((k : Int) + 1) (by omega)
      exact ⟨r, rfl, by omega, by omega, t1, t2⟩
  · obtain rfl : k = m := by omega
    have H1 := Lib.hid h1
    have H4 := Lib.hid h4
    clear h1 h4
    have hge : (k : Int) ≤ (k : Int) := by omega
    go_enter Tryz.func13, Tryz.ntmps13
    go_wp2
    go_quiet (fail)
    go_wp2
    go_ret
    exact ⟨0, rfl, by omega, by omega, ⟨ao, k, cap, k, H1.out, Nat.le_refl _, h3, H4.out⟩, rfl, rfl, rfl, Nat.le_refl _, fun _ _ _ => rfl⟩

set_option maxHeartbeats 1000000 in
theorem New_any (v : Value) (n : Nat) (w : World) (hi : IntsAt w v n w.heap.size) (hn : n ≤ 9223372036854775807) :
    Calls Tryz.prog 8 #[v] w fun e w' => e = .returned (.pointer (some ⟨w.heap.size, 0, none⟩)) ∧ TapeAt w' w.heap.size ∧ Below w.heap.size w w' := by
  obtain ⟨ao, cap, rfl, hcap, hx⟩ := hi
  have HX := Lib.hid hx
  clear hx
  have fin : ∀ m : Nat, m ≤ n → m ≤ 500 → TapeAt (w.alloc (.cells #[.slice ao m cap, .int .i64 0] 57)) w.heap.size ∧ Below w.heap.size w (w.alloc (.cells #[.slice ao m cap, .int .i64 0] 57)) := fun m h1 h2 => by
    refine ⟨⟨ao, m, cap, 0, heap_alloc_new w _, Nat.zero_le _, h2, ao, cap, rfl, by omega, fun i hi => ?_⟩, (Below.refl _ _).alloc (Nat.le_refl _) _⟩
    obtain ⟨b, o, x, e1, e2, e3, e4⟩ := HX.out i (by omega)
    exact ⟨b, o, x, e1, e2, by rw [World.cell?_of_block (w := w) (Below.heap_alloc w _ b e2)]; exact e3, e4⟩
  have FIN := Lib.hid fin
  clear fin
  by_cases h5 : n ≤ 500
  · have hz : (n : Int) ≤ 500 := by omega
    have hmin : min (n : Int) 500 = (n : Int) := by omega
    cases ao with
    | none =>
      go_enter Tryz.func8, Tryz.ntmps8
      go_wp2
      go_ret
      obtain ⟨f1, f2⟩ := FIN.out n (Nat.le_refl _) h5
      exact ⟨rfl, f1, f2⟩
    | some a =>
      go_enter Tryz.func8, Tryz.ntmps8
      go_wp2
      go_ret
      obtain ⟨f1, f2⟩ := FIN.out n (Nat.le_refl _) h5
      exact ⟨rfl, f1, f2⟩
  · have hz : 500 ≤ (n : Int) := by omega
    have hmin : min (n : Int) 500 = 500 := by omega
    cases ao with
    | none =>
      obtain ⟨b, o, x, e1, _⟩ := HX.out 0 (by omega)
      cases e1
    | some a =>
      go_enter Tryz.func8, Tryz.ntmps8
      go_wp2
      go_ret
      obtain ⟨f1, f2⟩ := FIN.out 500 (by omega) (by omega)
      exact ⟨rfl, f1, f2⟩

end Go.Proofs.YtionnohajnnfmaaGreatDoor
