/- Texts of one claim, merged: Tap, Src, SrcI. -/
import Derived.Test.YtoccnindkimjdaaMBase
import Derived.Test.YtoccnindkimjdaaMPut
/- Contracts of treasurymake's tape: New and N; a tape's numbers are any int64s; what N returns is within its bounds, and only the tape's place has turned. -/
set_option linter.unusedSimpArgs false
set_option linter.unusedVariables false
namespace Go.Proofs.Ytoccnindkimjdaa
open Go.RowKit Go.Lib Go.Proofs

/-- v is a slice of n int64s in the world w, all in blocks below B. -/
def IntsAt (w : World) (v : Value) (n B : Nat) : Prop :=
  ∃ (ao : Option Addr) (cap : Nat), v = .slice ao n cap ∧ n ≤ cap ∧ ∀ i, i < n → ∃ (b o : Nat) (x : Int), ao = some ⟨b, o, none⟩ ∧ b < B ∧ w.cell? ⟨b, o + i, none⟩ = some (.int .i64 x) ∧ -9223372036854775808 ≤ x ∧ x ≤ 9223372036854775807

theorem IntsAt.keep {w w' : World} {v : Value} {n B : Nat} (h : IntsAt w v n B) (hk : ∀ k, k < B → w'.heap[k]? = w.heap[k]?) : IntsAt w' v n B := by
  obtain ⟨ao, cap, hv, hc, hx⟩ := h
  refine ⟨ao, cap, hv, hc, fun i hi => ?_⟩
  obtain ⟨b, o, x, h1, h2, h3, h4⟩ := hx i hi
  exact ⟨b, o, x, h1, h2, by rw [World.cell?_of_block (w := w) (hk b h2)]; exact h3, h4⟩

theorem cell_pair {w : World} {tb : Nat} {a b : Value} {T : TypeId} (h : w.heap[tb]? = some (.cells #[a, b] T (0, 0))) : w.cell? ⟨tb, 0, none⟩ = some a ∧ w.cell? ⟨tb, 1, none⟩ = some b ∧ w.frozen? ⟨tb, 1, none⟩ = false := by
  simp [World.cell?, World.frozen?, h]

end Go.Proofs.Ytoccnindkimjdaa

/- Contracts of treasuryplay's source: New, N, Range and Pick; its numbers are any int64s; what N returns is within its bounds, and only the source's place has turned. -/
namespace Go.Proofs.Ytoccnindkimjdaa
open Go.RowKit Go.Lib Go.Proofs

/-- Block tb is a tape: at most 900 numbers in blocks before it, and its place among them. -/
def SrcAt (w : World) (tb : Nat) : Prop :=
  ∃ (ao : Option Addr) (n cap k : Nat), w.heap[tb]? = some (.cells #[.slice ao n cap, .int .i64 (k : Int)] 63 (0, 0)) ∧ k ≤ n ∧ n ≤ 900 ∧ IntsAt w (.slice ao n cap) n tb

theorem SrcAt.lt {w : World} {tb : Nat} (h : SrcAt w tb) : tb < w.heap.size := by
  obtain ⟨ao, n, cap, k, h1, _⟩ := h
  by_cases hlt : tb < w.heap.size
  · exact hlt
  · rw [Array.getElem?_eq_none (by omega)] at h1; cases h1

theorem SrcAt.keep {w w' : World} {tb : Nat} (h : SrcAt w tb) (hk : ∀ k, k ≤ tb → w'.heap[k]? = w.heap[k]?) : SrcAt w' tb := by
  obtain ⟨ao, n, cap, k, h1, h2, h3, h4⟩ := h
  exact ⟨ao, n, cap, k, by rw [hk tb (Nat.le_refl _)]; exact h1, h2, h3, h4.keep fun j hj => hk j (by omega)⟩

theorem SrcAt.below {w w' : World} {tb : Nat} (h : SrcAt w tb) (hb : Below w.heap.size w w') : SrcAt w' tb :=
  h.keep fun k hk => hb.block k (by have := h.lt; omega)

theorem SrcAt.grown {w w' : World} {tb : Nat} {row : Option Nat} (h : SrcAt w tb) (hg : w.grownBy w' row) (hr : ∀ r, row = some r → tb < r) : SrcAt w' tb :=
  h.keep fun k hk => hg.block k (by have := h.lt; omega) (fun e => by have := hr k e.symm; omega)

/-- What N hands back: a number from 0 to n - 1; only the tape's place has turned. -/
def SNPost (tb : Nat) (n : Int) (w : World) (e : Ending) (w' : World) : Prop := ∃ r : Int, e = .returned (.int .i64 r) ∧ 0 ≤ r ∧ r < n ∧ SrcAt w' tb ∧ w.grownBy w' (some tb)

theorem src_step {w : World} {tb n cap k : Nat} {ao : Option Addr} (h : w.heap[tb]? = some (.cells #[.slice ao n cap, .int .i64 (k : Int)] 63 (0, 0))) (hk : k < n) (hn : n ≤ 900) (hi : IntsAt w (.slice ao n cap) n tb) (q : Nat) (z : Int) (hz : z = (k + 1 : Nat)) :
    SrcAt ((w.drewN q).setCell ⟨tb, 1, none⟩ (.int .i64 z)) tb ∧ w.grownBy ((w.drewN q).setCell ⟨tb, 1, none⟩ (.int .i64 z)) (some tb) := by
  subst hz
  have hlt : tb < w.heap.size := by
    by_cases hlt : tb < w.heap.size
    · exact hlt
    · rw [Array.getElem?_eq_none (by omega)] at h; cases h
  have hsame : ((w.drewN q).setCell ⟨tb, 1, none⟩ (.int .i64 ((k + 1 : Nat) : Int))).heap[tb]? = some (.cells #[.slice ao n cap, .int .i64 ((k + 1 : Nat) : Int)] 63 (0, 0)) := by
    rw [heap_setCell_same (w.drewN q) tb 1 _ _ _ h]
    rfl
  have hother : ∀ j, j ≠ tb → ((w.drewN q).setCell ⟨tb, 1, none⟩ (.int .i64 ((k + 1 : Nat) : Int))).heap[j]? = w.heap[j]? := fun j hj => Below.heap_setCell (w.drewN q) _ _ j hj
  refine ⟨⟨ao, n, cap, k + 1, hsame, by omega, hn, hi.keep fun j hj => hother j (by omega)⟩, rfl, rfl, rfl, by simp [World.setCell, World.drewN], fun j hj hne => hother j fun e => hne (by rw [e])⟩

set_option maxHeartbeats 1000000 in
theorem sN_any (tb : Nat) (n : Int) (w : World) (ht : SrcAt w tb) (hn : 1 ≤ n) (hn1 : n ≤ 4611686018427387904) :
    Calls Try.prog 21 #[.pointer (some ⟨tb, 0, none⟩), .int .i64 n] w (SNPost tb n w) := by
  obtain ⟨ao, m, cap, k, h1, h2, h3, h4⟩ := ht
  obtain ⟨c0, c1, f1⟩ := cell_pair h1
  by_cases hlt : k < m
  · obtain ⟨ao', cap', hv, hcap, hx⟩ := h4
    obtain ⟨b, o, x, e1, e2, hc, x0, x1⟩ := hx k hlt
    have H1 := Lib.hid h1
    have H4 : Hid (IntsAt w (.slice ao m cap) m tb) := ⟨ao', cap', hv, hcap, hx⟩
    simp only [Value.slice.injEq, true_and] at hv
    obtain ⟨rfl, rfl⟩ := hv
    subst e1
    clear h1 hx
    have r1 : x.tmod n < n := by
      rcases Int.le_total 0 x with hx0 | hx0
      · exact Int.tmod_lt_of_pos _ (by omega)
      · have := Int.tmod_nonneg n (a := -x) (by omega)
        rw [Int.neg_tmod] at this
        omega
    have r2 : -n < x.tmod n := by
      have := Int.tmod_lt_of_pos (-x) (b := n) (by omega)
      rw [Int.neg_tmod] at this
      omega
    have hk0 : (0 : Int) ≤ (k : Int) := by omega
    have hk1 : (k : Int) < (m : Int) := by omega
    have hge : ¬ (m : Int) ≤ (k : Int) := by omega
    go_enter Try.func21, Try.ntmps21
    go_wp2
    go_quiet (fail)
    go_wp2
    go_quiet (fail)
    generalize x.tmod n = r at *
    have hn2 : ¬ n < 1 := by omega
    have e0 := Int.emod_nonneg r (show n ≠ 0 by omega)
    have e1 := Int.emod_lt_of_pos r (show 0 < n by omega)
    go_wp2
    go_ret
    obtain ⟨t1, t2⟩ := src_step H1.out hlt h3 H4.out _ ((k : Int) + 1) (by omega)
    exact ⟨r % n, rfl, e0, e1, t1, t2.os, t2.tape, t2.output, t2.size, t2.block⟩
  · obtain rfl : k = m := by omega
    have H1 := Lib.hid h1
    have H4 := Lib.hid h4
    clear h1 h4
    have hge : (k : Int) ≤ (k : Int) := by omega
    go_enter Try.func21, Try.ntmps21
    go_wp2
    go_quiet (fail)
    go_wp2
    go_ret
    exact ⟨0, rfl, by omega, by omega, ⟨ao, k, cap, k, H1.out, Nat.le_refl _, h3, H4.out⟩, rfl, rfl, rfl, Nat.le_refl _, fun _ _ _ => rfl⟩

set_option maxHeartbeats 1000000 in
theorem sNew_any (v : Value) (n : Nat) (w : World) (hi : IntsAt w v n w.heap.size) (hn : n ≤ 9223372036854775807) :
    Calls Try.prog 8 #[v] w fun e w' => e = .returned (.pointer (some ⟨w.heap.size, 0, none⟩)) ∧ SrcAt w' w.heap.size ∧ Below w.heap.size w w' := by
  obtain ⟨ao, cap, rfl, hcap, hx⟩ := hi
  have HX := Lib.hid hx
  clear hx
  have fin : ∀ m : Nat, m ≤ n → m ≤ 900 → SrcAt (w.alloc (.cells #[.slice ao m cap, .int .i64 0] 63)) w.heap.size ∧ Below w.heap.size w (w.alloc (.cells #[.slice ao m cap, .int .i64 0] 63)) := fun m h1 h2 => by
    refine ⟨⟨ao, m, cap, 0, heap_alloc_new w _, Nat.zero_le _, h2, ao, cap, rfl, by omega, fun i hi => ?_⟩, (Below.refl _ _).alloc (Nat.le_refl _) _⟩
    obtain ⟨b, o, x, e1, e2, e3, e4⟩ := HX.out i (by omega)
    exact ⟨b, o, x, e1, e2, by rw [World.cell?_of_block (w := w) (Below.heap_alloc w _ b e2)]; exact e3, e4⟩
  have FIN := Lib.hid fin
  clear fin
  by_cases h5 : n ≤ 900
  · have hz : (n : Int) ≤ 900 := by omega
    have hmin : min (n : Int) 900 = (n : Int) := by omega
    cases ao with
    | none =>
      go_enter Try.func8, Try.ntmps8
      go_wp2
      go_ret
      obtain ⟨f1, f2⟩ := FIN.out n (Nat.le_refl _) h5
      exact ⟨rfl, f1, f2⟩
    | some a =>
      go_enter Try.func8, Try.ntmps8
      go_wp2
      go_ret
      obtain ⟨f1, f2⟩ := FIN.out n (Nat.le_refl _) h5
      exact ⟨rfl, f1, f2⟩
  · have hz : 900 ≤ (n : Int) := by omega
    have hmin : min (n : Int) 900 = 900 := by omega
    cases ao with
    | none =>
      obtain ⟨b, o, x, e1, _⟩ := HX.out 0 (by omega)
      cases e1
    | some a =>
      go_enter Try.func8, Try.ntmps8
      go_wp2
      go_ret
      obtain ⟨f1, f2⟩ := FIN.out 900 (by omega) (by omega)
      exact ⟨rfl, f1, f2⟩

/-- What Range hands back. -/
def SRangePost (tb : Nat) (a b : Int) (w : World) (e : Ending) (w' : World) : Prop := ∃ r : Int, e = .returned (.int .i64 r) ∧ a ≤ r ∧ r ≤ b ∧ SrcAt w' tb ∧ w.grownBy w' (some tb)

set_option maxHeartbeats 1000000 in
theorem sRange_any (tb : Nat) (a b : Int) (w : World) (ht : SrcAt w tb) (hab : a ≤ b) (ha : -1000000000000000 ≤ a) (hb : b ≤ 1000000000000000) :
    Calls Try.prog 36 #[.pointer (some ⟨tb, 0, none⟩), .int .i64 a, .int .i64 b] w (SRangePost tb a b w) := by
  have HN := Lib.hid (sN_any tb (b - a + 1) w ht (by omega) (by omega))
  clear ht
  go_enter Try.func36, Try.ntmps36
  go_wp2_with fail
  refine (HN.out).mono ?_
  rintro e w' ⟨r, rfl, r0, r1, t1, g1⟩
  go_wp2
  go_ret
  exact ⟨a + r, rfl, by omega, by omega, t1, g1⟩

/-- What Pick hands back: one of the numbers of l; only the tape's place has turned. -/
def SPickPost (tb : Nat) (l : List Int) (w : World) (e : Ending) (w' : World) : Prop := ∃ x : Int, e = .returned (.int .i64 x) ∧ x ∈ l ∧ SrcAt w' tb ∧ w.grownBy w' (some tb)

set_option maxHeartbeats 1000000 in
theorem sPick_any (tb b cap : Nat) (l : List Int) (w : World) (ht : SrcAt w tb) (hb : tb < b) (hbw : b < w.heap.size) (hl : 0 < l.length) (hl1 : l.length ≤ 1000) (hc : ∀ i, i < l.length → w.cell? ⟨b, i, none⟩ = some (.int .i64 (l.getD i 0))) :
    Calls Try.prog 61 #[.pointer (some ⟨tb, 0, none⟩), .slice (some ⟨b, 0, none⟩) l.length cap] w (SPickPost tb l w) := by
  obtain ⟨m, hm⟩ : ∃ m, m = l.length := ⟨_, rfl⟩
  have hm0 : 0 < m := by omega
  have hm1 : m ≤ 1000 := by omega
  have HM := Lib.hid hm
  have HC := Lib.hid hc
  have HN := Lib.hid (sN_any tb (m : Int) w ht (by omega) (by omega))
  rw [← hm]
  clear hc hm hl hl1 ht
  go_enter Try.func61, Try.ntmps61
  go_wp2_with fail
  refine (HN.out).mono ?_
  rintro e w' ⟨r, rfl, r0, r1, t1, g1⟩
  obtain ⟨i, rfl⟩ : ∃ i : Nat, r = i := ⟨r.toNat, by omega⟩
  have hi : i < m := by omega
  obtain ⟨x, hx⟩ : ∃ x, x = l.getD i 0 := ⟨_, rfl⟩
  have hcell : w'.cell? ⟨b, i, none⟩ = some (.int .i64 x) := by
    rw [World.cell?_of_block (w := w) (g1.block b hbw (by simp; omega)), hx]
    exact HC.out i (by have := HM.out; omega)
  have HX := Lib.hid hx
  clear hx
  go_wp2
  go_ret
  exact ⟨x, rfl, by rw [HX.out, getD_eq (by have := HM.out; omega)]; exact List.getElem_mem _, t1, g1⟩

/-- Pick among numbers that lie in a new block. -/
theorem sPick_new (tb cap : Nat) (l : List Int) (cs : Array Value) (T : TypeId) (w : World) (hcs : cs.toList = cellsI l) (ht : SrcAt w tb) (hl : 0 < l.length) (hl1 : l.length ≤ 1000) (m : Nat) (hm : m = l.length) :
    Calls Try.prog 61 #[.pointer (some ⟨tb, 0, none⟩), .slice (some ⟨w.heap.size, 0, none⟩) m cap] (w.alloc (.cells cs T)) (SPickPost tb l (w.alloc (.cells cs T))) := by
  subst hm
  refine sPick_any tb w.heap.size cap l _ (ht.below ((Below.refl _ _).alloc (Nat.le_refl _) _)) ht.lt (by simp) hl hl1 fun i hi => ?_
  have h1 : (w.alloc (.cells cs T)).heap[w.heap.size]? = some (.cells cs T) := heap_alloc_new w _
  have h2 : cs[i]? = some (.int .i64 (l.getD i 0)) := by rw [← Array.getElem?_toList, hcs, cellsI_get l i hi]
  rw [cell_of_row _ _ i cs T (0, 0) h1]
  exact h2

end Go.Proofs.Ytoccnindkimjdaa

/- A world within a call that has a treasuryplay source: what Pick, N and Range do to it. -/
namespace Go.Proofs.Ytoccnindkimjdaa
open Go.RowKit Go.Lib Go.Proofs

/-- A world within a call that has a source at tb: it stands, and only its place has turned of what was there. -/
structure SI (w : World) (tb : Nat) (W : World) : Prop where
  src : SrcAt W tb
  old : w.grownBy W (some tb)
  lt : tb < w.heap.size

theorem si_start {w : World} {tb : Nat} (h : SrcAt w tb) : SI w tb w := ⟨h, ⟨rfl, rfl, rfl, Nat.le_refl _, fun _ _ _ => rfl⟩, h.lt⟩
theorem SI.below {w : World} {tb : Nat} {A B : World} (h : SI w tb A) (hb : Below A.heap.size A B) : SI w tb B :=
  ⟨h.src.below hb, grown_step h.old ⟨hb.os, hb.tape, hb.output, hb.size, fun k hk _ => hb.block k hk⟩, h.lt⟩
theorem SI.alloc {w : World} {tb : Nat} {A : World} (h : SI w tb A) (o : Obj) : SI w tb (A.alloc o) := h.below (below_alloc A o)
theorem SI.drew {w : World} {tb : Nat} {A : World} (h : SI w tb A) : SI w tb A.drew := h.below ((Below.refl _ _).drew)
theorem SI.turn {w : World} {tb : Nat} {A B : World} (h : SI w tb A) (ht : SrcAt B tb) (hg : A.grownBy B (some tb)) : SI w tb B := ⟨ht, grown_step h.old hg, h.lt⟩
theorem SI.set {w : World} {tb : Nat} {A : World} (h : SI w tb A) {b : Nat} (hb : w.heap.size ≤ b) (i : Nat) (v : Value) : SI w tb (A.setCell ⟨b, i, none⟩ v) :=
  ⟨h.src.grown (setCell_grown i v) (fun r hr => by simp at hr; have := h.lt; omega), ⟨h.old.os, h.old.tape, h.old.output, by simpa [World.setCell] using h.old.size, fun k hk hne => (Below.heap_setCell A _ _ k (by show k ≠ b; omega)).trans (h.old.block k hk hne)⟩, h.lt⟩
theorem SI.grown {w : World} {tb : Nat} {A B : World} {row : Option Nat} (h : SI w tb A) (hg : A.grownBy B row) (hr : ∀ r, row = some r → w.heap.size ≤ r) : SI w tb B :=
  ⟨h.src.grown hg (fun r e => by have := hr r e; have := h.lt; omega), ⟨hg.os.trans h.old.os, hg.tape.trans h.old.tape, hg.output.trans h.old.output, Nat.le_trans h.old.size hg.size, fun k hk hne => (hg.block k (Nat.lt_of_lt_of_le hk h.old.size) (fun e => by have := hr k e.symm; omega)).trans (h.old.block k hk hne)⟩, h.lt⟩
theorem obj_turn {A B : World} {tb b : Nat} {o : Obj} (h : A.heap[b]? = some o) (hg : A.grownBy B (some tb)) (hne : b ≠ tb) : B.heap[b]? = some o :=
  (hg.block b (obj_lt h) (by simp; omega)).trans h

theorem cell_set_other (A : World) (b i j : Nat) (v : Value) (h : i ≠ j) : (A.setCell ⟨b, i, none⟩ v).cell? ⟨b, j, none⟩ = A.cell? ⟨b, j, none⟩ := by
  unfold World.cell?
  simp only [World.setCell, Array.getElem?_modify]
  cases hh : A.heap[b]? with
  | none => simp
  | some o => cases o with
    | cells cs T d => simp [h]
    | _ => simp

/-- What Pick hands back within a call. -/
def PickIn (w : World) (tb : Nat) (l : List Int) (W : World) (e : Ending) (w' : World) : Prop := ∃ x : Int, e = .returned (.int .i64 x) ∧ x ∈ l ∧ SI w tb w' ∧ W.grownBy w' (some tb)
theorem pick_in {w : World} {tb : Nat} (cap : Nat) (l : List Int) (cs : Array Value) (T : TypeId) {W : World} (hcs : cs.toList = cellsI l) (h : SI w tb W) (hl : 0 < l.length) (hl1 : l.length ≤ 1000) (m : Nat) (hm : m = l.length) (b : Nat) (hb : b = W.heap.size) :
    Calls Try.prog 61 #[.pointer (some ⟨tb, 0, none⟩), .slice (some ⟨b, 0, none⟩) m cap] (W.alloc (.cells cs T)) (PickIn w tb l (W.alloc (.cells cs T))) := by
  subst hb
  exact (sPick_new tb cap l cs T W hcs h.src hl hl1 m hm).mono fun _ _ ⟨x, h1, h2, h3, h4⟩ => ⟨x, h1, h2, (h.alloc _).turn h3 h4, h4⟩
/-- What N hands back within a call. -/
def NIn (w : World) (tb : Nat) (n : Int) (W : World) (e : Ending) (w' : World) : Prop := ∃ r : Int, e = .returned (.int .i64 r) ∧ 0 ≤ r ∧ r < n ∧ SI w tb w' ∧ W.grownBy w' (some tb)
theorem n_in {w : World} {tb : Nat} {W : World} (h : SI w tb W) (n : Int) (hn : 1 ≤ n) (hn1 : n ≤ 4611686018427387904) : Calls Try.prog 21 #[.pointer (some ⟨tb, 0, none⟩), .int .i64 n] W (NIn w tb n W) :=
  (sN_any tb n W h.src hn hn1).mono fun _ _ ⟨r, h1, h2, h3, h4, h5⟩ => ⟨r, h1, h2, h3, h.turn h4 h5, h5⟩
/-- What Range hands back within a call. -/
def RangeIn (w : World) (tb : Nat) (a b : Int) (W : World) (e : Ending) (w' : World) : Prop := ∃ r : Int, e = .returned (.int .i64 r) ∧ a ≤ r ∧ r ≤ b ∧ SI w tb w' ∧ W.grownBy w' (some tb)
theorem range_in {w : World} {tb : Nat} {W : World} (h : SI w tb W) (a b : Int) (hab : a ≤ b) (ha : -1000000000000000 ≤ a) (hb : b ≤ 1000000000000000) :
    Calls Try.prog 36 #[.pointer (some ⟨tb, 0, none⟩), .int .i64 a, .int .i64 b] W (RangeIn w tb a b W) :=
  (sRange_any tb a b W h.src hab ha hb).mono fun _ _ ⟨r, h1, h2, h3, h4, h5⟩ => ⟨r, h1, h2, h3, h.turn h4 h5, h5⟩

end Go.Proofs.Ytoccnindkimjdaa
