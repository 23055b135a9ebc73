/- risk.Term of every right register: the sums of amounts, and of amounts times the days until their maturities. -/
import Derived.Test.YtblidmkkbcobgaaMRkL
import Derived.Test.YtblidmkkbcobgaaMG6
set_option linter.unusedSimpArgs false
set_option linter.unusedVariables false
set_option linter.unusedSimpArgs false
set_option linter.unusedVariables false
namespace Go.Proofs.Ytblidmkkbcobgaa
open Go.RowKit Go.Lib Go.Proofs
attribute [local go_sem] Oper.semAt_some

/-- A world within Term. -/
structure TI (w : World) (y n d : Int) (A : World) : Prop where
  b3 : A.heap[w.heap.size + 1]? = some (.cells #[.int .i64 y] 3 (0, 0))
  b4 : A.heap[w.heap.size + 1 + 1]? = some (.cells #[.int .i64 n] 3 (0, 0))
  b5 : A.heap[w.heap.size + 1 + 1 + 1]? = some (.cells #[.int .i64 d] 3 (0, 0))
  old : Below w.heap.size w A
theorem TI.below {w : World} {y n d : Int} {A B : World} (h : TI w y n d A) (hb : Below A.heap.size A B) : TI w y n d B :=
  ⟨obj_below h.b3 hb, obj_below h.b4 hb, obj_below h.b5 hb, h.old.trans (hb.mono h.old.size)⟩
theorem TI.stay {w : World} {N : Nat} {y n d : Int} {A B : World} {row : Option Nat} (h : TI w y n d A) (hN : w.heap.size ≤ N) (hg : A.grownBy B row) (hr : ∀ r, row = some r → N ≤ r ∧ ∃ o : Obj, A.heap[r]? = some o ∧ o.isCells = false) : TI w y n d B :=
  ⟨cells_stay h.b3 hg hr, cells_stay h.b4 hg hr, cells_stay h.b5 hg hr, h.old.grown hg h.old.size fun j e => by have := (hr j (by first | exact e | exact e.symm)).1; omega⟩
theorem TI.round {S : Nat → Prop} {w : World} {y n d n' d' : Int} {A : World} (h : TI w y n d A) (h4 : S (w.heap.size + 1 + 1)) (h5 : S (w.heap.size + 1 + 1 + 1)) :
    KeepsOthers A ((A.setCell ⟨w.heap.size + 1 + 1, 0, none⟩ (.int .i64 n')).setCell ⟨w.heap.size + 1 + 1 + 1, 0, none⟩ (.int .i64 d')) ∧ KeepsBut S A ((A.setCell ⟨w.heap.size + 1 + 1, 0, none⟩ (.int .i64 n')).setCell ⟨w.heap.size + 1 + 1 + 1, 0, none⟩ (.int .i64 d')) ∧ TI w y n' d' ((A.setCell ⟨w.heap.size + 1 + 1, 0, none⟩ (.int .i64 n')).setCell ⟨w.heap.size + 1 + 1 + 1, 0, none⟩ (.int .i64 d')) := by
  have hs := ((stepB_set (S := S) (A := A) (i := 0) (v := .int .i64 n') h4).trans (stepB_set (S := S) (i := 0) (v := .int .i64 d') h5)).keeps
  have g4 := obj_set h.b4 0 (.int .i64 n')
  have g5 := obj_set ((Below.heap_setCell A ⟨w.heap.size + 1 + 1, 0, none⟩ (.int .i64 n') _ (by show w.heap.size + 1 + 1 + 1 ≠ w.heap.size + 1 + 1; omega)).trans h.b5) 0 (.int .i64 d')
  refine ⟨hs.1, hs.2, ?_, ?_, ?_, (h.old.setCell (by show _ ≤ w.heap.size + 1 + 1; omega) _).setCell (by show _ ≤ w.heap.size + 1 + 1 + 1; omega) _⟩
  · exact (Below.heap_setCell _ ⟨w.heap.size + 1 + 1 + 1, 0, none⟩ _ _ (by show _ ≠ w.heap.size + 1 + 1 + 1; omega)).trans ((Below.heap_setCell A ⟨w.heap.size + 1 + 1, 0, none⟩ _ _ (by show _ ≠ w.heap.size + 1 + 1; omega)).trans h.b3)
  · refine (Below.heap_setCell _ ⟨w.heap.size + 1 + 1 + 1, 0, none⟩ _ _ (by show _ ≠ w.heap.size + 1 + 1 + 1; omega)).trans ?_
    simpa using g4
  · simpa using g5
theorem term_start (w : World) (x y z : Value) (q : Int) : TI w q 0 0 ((((w.alloc (.cells #[x, y, z] 29)).alloc (.cells #[.int .i64 q] 3)).alloc (.cells #[.int .i64 0] 3)).alloc (.cells #[.int .i64 0] 3)) ∧ ((((w.alloc (.cells #[x, y, z] 29)).alloc (.cells #[.int .i64 q] 3)).alloc (.cells #[.int .i64 0] 3)).alloc (.cells #[.int .i64 0] 3)).heap[w.heap.size]? = some (.cells #[x, y, z] 29 (0, 0)) := by
  refine ⟨⟨?_, ?_, ?_, ((((Below.refl w.heap.size w).alloc (Nat.le_refl _) _).alloc (by simp) _).alloc (by simp; omega) _).alloc (by simp; omega) _⟩, obj_below (obj_below (obj_below (heap_alloc_new w _) (below_alloc _ _)) (below_alloc _ _)) (below_alloc _ _)⟩
  · have := heap_alloc_new (w.alloc (.cells #[x, y, z] 29)) (.cells #[.int .i64 q] 3)
    rw [World.size_alloc] at this
    exact obj_below (obj_below this (below_alloc _ _)) (below_alloc _ _)
  · have := heap_alloc_new ((w.alloc (.cells #[x, y, z] 29)).alloc (.cells #[.int .i64 q] 3)) (.cells #[.int .i64 0] 3)
    rw [World.size_alloc, World.size_alloc] at this
    exact obj_below this (below_alloc _ _)
  · have := heap_alloc_new (((w.alloc (.cells #[x, y, z] 29)).alloc (.cells #[.int .i64 q] 3)).alloc (.cells #[.int .i64 0] 3)) (.cells #[.int .i64 0] 3)
    rw [World.size_alloc, World.size_alloc, World.size_alloc] at this
    exact this
theorem prefix_term {r : Reg} (h : RegOk r) {day : Int} (hd : 0 ≤ day) {pre : List Hld} {x : Hld} (hp : (pre ++ [x]) <+: r.hs) : 0 ≤ termD r.secs day pre ∧ termD r.secs day pre + x.amt ≤ 20000000000000 ∧ 1 ≤ x.amt ∧ 0 ≤ termN r.secs day pre ∧ termN r.secs day pre ≤ 720000000000000000 := by
  have h1 := prefix_in h hp fun _ => true
  have hx : ∀ y ∈ pre ++ [x], y ∈ r.hs := fun y hy => hp.subset hy
  have h2 := term_in (secs := r.secs) hd (l := pre) fun y hy => ⟨h.hld y (hx y (by simp [hy])), (h.known y (hx y (by simp [hy]))).2.1⟩
  omega

def TAx (r : Reg) (w : World) (N : Nat) (y : Int) (D : Value) (pre : List Hld) (x : Hld) (a' : Act) (A : World) : Prop :=
  ∃ b8 b9 : Nat, N ≤ b8 ∧ N ≤ b9 ∧ A.heap[b8]? = some (.cells (secAt r.secs x.sec).cells.toArray 55 (0, 0)) ∧ A.heap[b9]? = some (.cells (hldC x).toArray 53 (0, 0)) ∧ TI w y (termN r.secs y pre) (termD r.secs y pre) A ∧ N ≤ A.heap.size ∧
    a' = { tmps := #[D, .int .i64 y, .pointer (some ⟨w.heap.size, 0, none⟩), .pointer (some ⟨w.heap.size + 1, 0, none⟩), .pointer (some ⟨w.heap.size + 1 + 1, 0, none⟩), .pointer (some ⟨w.heap.size + 1 + 1 + 1, 0, none⟩), .int .i64 0, .int .i64 0, .pointer (some ⟨b8, 0, none⟩), .pointer (some ⟨b9, 0, none⟩), D, .int .i64 0, .int .i64 0, .bool false, undef, .int .i64 y, .bool true, .bool false, D, D, .func (.func 63) #[D] #[], .agg (secAt r.secs x.sec).cells.toArray, .agg (hldC x).toArray, undef, undef, undef, undef, undef, undef, undef, undef, undef, undef, undef, undef, undef, undef, undef, undef, undef, undef, undef], defers := [] }

set_option maxRecDepth 100000 in
set_option maxHeartbeats 8000000 in
theorem riterm_ok (r : Reg) (x y z : Value) (q : Int) (w : World) (h : RegOk r) (hr : RegAt w x y z r) (hf : 0 ≤ q ∧ q ≤ 36000) :
    Calls Try.prog 22 #[.agg #[x, y, z], .int .i64 q] w fun e w' => e = .returned (.tuple #[.int .i64 (termN r.secs q r.hs), .int .i64 (termD r.secs q r.hs), .int .i64 0]) ∧ Below w.heap.size w w' := by
  refine (callsIn_wide (n := 0)).1 ?_
  have HOK := Lib.hid h
  have HREG := Lib.hid hr
  have hmo : Try.prog.follows .mixedOrders = true := by kernel_rfl
  have hst := term_start w x y z q
  have HFI0 := Lib.hid hst.1
  have HBX0 := Lib.hid hst.2
  have hb0 := hst.2
  have q0 := obj_cell hb0 0
  have q1 := obj_cell hb0 1
  have q2 := obj_cell hb0 2
  simp at q0 q1 q2
  have HCK := Lib.hid (rxCheck_any r x y z _ h.regS (hr.below HFI0.out.old))
  rw [checkR_ok h] at HCK
  have HVD := Lib.hid (fun W => cValid_yes W (dayB_true.2 hf))
  clear h hr hst hb0
  refine callsIn_of_wp_marks Try.func22 rfl trivial ?_ rfl
  simp only [Try.ntmps22, List.size_toArray, List.length_cons, List.length_nil, Nat.reduceAdd, Nat.reduceSub, Array.replicate_succ, Array.replicate_zero, List.push_toArray, List.append_toArray, List.nil_append, List.cons_append]
  gi_wp2_with (first
    | (refine ⟨trivial, rfl, ?_⟩; gi_at_call 46; refine (callsIn_wide.2 HCK.out).mono ?_; rintro e w1 ⟨rfl, hb1⟩; (have HFI := Lib.hid (HFI0.out.below hb1)); (have hx1 := obj_below HBX0.out hb1); (have u0 := obj_cell hx1 0); (have u1 := obj_cell hx1 1); (have u2 := obj_cell hx1 2); (have HFF := HFI.out); (have hd3 := HFF.b3); (have u3 := obj_cell hd3 0); simp at u0 u1 u2 u3; clear hx1 hb1 HFF hd3 q0 q1 q2)
    | (refine ⟨trivial, rfl, ?_⟩; gi_at_call 62; refine (callsIn_wide.2 (HVD.out _)).mono ?_; rintro e w' ⟨rfl, rfl⟩))
  have HSZ : Hid (w.heap.size + 1 + 1 + 1 + 1 ≤ w1.heap.size) := Lib.hid (obj_lt HFI.out.b5)
  clear u0 u1 u2 u3 HCK HVD HFI0 HBX0
  refine range_pairs (gf := 63) (fst := #[.agg #[x, y, z]]) (lb := #[]) (xs := r.hs) (encs := heldV r) (Kp := KeepsBut fun k => w.heap.size ≤ k ∧ k < w1.heap.size) rfl (enters_of Try.func63 (by kernel_rfl) rfl)
    (riheld_in r x y z w w1 _ HOK.out HREG.out (KeptC.of_below (Nat.le_refl _) HFI.out.old) (fun k hk => hk)) keepsBut_t keepsBut_b keepsBut_below (fun _ => rfl)
    (fun pre A => TI w q (termN r.secs q pre) (termD r.secs q pre) A ∧ w1.heap.size ≤ A.heap.size) (fun _ _ _ => False)
    (fun s A B row hs hg hr => ⟨hs.1.stay (by have := HSZ.out; omega) hg hr, Nat.le_trans hs.2 hg.size⟩) (fun c pre A B row h hg hr => h.elim) (fun pre A B h hb => ⟨h.1.below hb, Nat.le_trans h.2 hb.size⟩) ⟨HFI.out, Nat.le_refl _⟩
    (TAx r w w1.heap.size q (.agg #[x, y, z]))
    (fun pre x a' A l o o' hl ho hc h => by
      obtain ⟨b8, b9, h1, h2, h3, h4, h5, hN, h6⟩ := h
      have hg := grownBy_putObj' A l o'
      have hr : ∀ r, (some l : Option Nat) = some r → w1.heap.size ≤ r ∧ ∃ o : Obj, A.heap[r]? = some o ∧ o.isCells = false := fun r e => by cases e; exact ⟨hl, o, ho, hc⟩
      exact ⟨b8, b9, h1, h2, cells_stay h3 hg hr, cells_stay h4 hg hr, h5.stay (by have := HSZ.out; omega) hg hr, Nat.le_trans hN hg.size, h6⟩)
    ?assign ?body ?done ?stop
  case assign =>
    rintro l pre ⟨g0, g1, g2⟩ A K hp hI hK
    have HKK := Lib.hid hK
    have HII := Lib.hid hI.1
    have HXL : Hid (w1.heap.size ≤ A.heap.size) := Lib.hid hI.2
    unfold heldV
    obtain ⟨s, hs⟩ : ∃ s, s = secAt r.secs g0 := ⟨_, rfl⟩
    have HSS := Lib.hid hs
    simp only [← hs, hldC]
    obtain ⟨t0, t1, t2, t3, t4, t5, t6⟩ := s
    simp only [Sec.cells]
    clear hs hK hI hp
    gi_wp2
    refine HKK.out _ _ ⟨A.heap.size, A.heap.size + 1, HXL.out, by have := HXL.out; omega, ?_, ?_, HII.out.below (below2 A _ _), Nat.le_trans HXL.out (below2 A _ _).size, ?_⟩ (below2 A _ _)
    · rw [← HSS.out]; exact alloc1_at A _ _
    · exact alloc2_at A _ _
    · rw [← HSS.out]; rfl
  case body =>
    rintro l pre ⟨g0, g1, g2⟩ a' A hp ⟨b8, b9, h8l, h9l, h8, h9, hfi, hNA, rfl⟩
    have HS4 : Hid ((fun k => w.heap.size ≤ k ∧ k < w1.heap.size) (w.heap.size + 1 + 1)) := Lib.hid (by show w.heap.size ≤ w.heap.size + 1 + 1 ∧ w.heap.size + 1 + 1 < w1.heap.size; have := HSZ.out; omega)
    have HS5 : Hid ((fun k => w.heap.size ≤ k ∧ k < w1.heap.size) (w.heap.size + 1 + 1 + 1)) := Lib.hid (by show w.heap.size ≤ w.heap.size + 1 + 1 + 1 ∧ w.heap.size + 1 + 1 + 1 < w1.heap.size; have := HSZ.out; omega)
    have hx : (⟨g0, g1, g2⟩ : Hld) ∈ r.hs := hp.subset (by simp)
    have hm := ((HOK.out.known _ hx).2.1).mat
    have hsn := termN_app r.secs q pre [⟨g0, g1, g2⟩]
    have hsd := termD_app r.secs q pre [⟨g0, g1, g2⟩]
    obtain ⟨o0, o1, o2, o3, o4⟩ := prefix_term HOK.out hf.1 hp
    have ham : g2 ≤ 1000000000000 := (HOK.out.hld _ hx).amt.2
    simp only [termN, termD, Int.add_zero] at hsn hsd
    simp only [hldC] at h9 ⊢
    simp only at hm o1 o2
    obtain ⟨NN, hNN⟩ : ∃ NN, NN = termN r.secs q (pre ++ [⟨g0, g1, g2⟩]) := ⟨_, rfl⟩
    obtain ⟨DD, hDD⟩ : ∃ DD, DD = termD r.secs q (pre ++ [⟨g0, g1, g2⟩]) := ⟨_, rfl⟩
    have HNQ := Lib.hid hNN
    have HDQ := Lib.hid hDD
    rw [← hNN] at hsn
    rw [← hDD] at hsd
    clear hNN hDD
    generalize termN r.secs q pre = n0 at *
    generalize termD r.secs q pre = d0 at *
    generalize secAt r.secs g0 = s at *
    obtain ⟨t0, t1, t2, t3, t4, t5, t6⟩ := s
    simp only [Sec.cells] at h8 hm hsn hsd ⊢
    have hh3 := hfi.b3
    have hh4 := hfi.b4
    have hh5 := hfi.b5
    have c3 := obj_cell hh3 0
    have c4 := obj_cell hh4 0
    have f4 := obj_free hh4 0
    have c5 := obj_cell hh5 0
    have f5 := obj_free hh5 0
    have e3 := obj_cell h8 3
    have k2 := obj_cell h9 2
    simp at c3 c4 c5 e3 k2
    have HFI2 := Lib.hid hfi
    have HNN := Lib.hid hNA
    have hz := HSZ.out
    have n84 : ¬ b8 = w.heap.size + 1 + 1 := by omega
    have n94 : ¬ b9 = w.heap.size + 1 + 1 := by omega
    clear hz hNA
    by_cases hin : q < t3
    · rw [if_pos hin] at hsn hsd
      have hmul0 := Int.mul_nonneg (show 0 ≤ g2 by omega) (show 0 ≤ t3 - q by omega)
      have hmul1 : g2 * (t3 - q) ≤ 1000000000000 * 36000 := Int.mul_le_mul ham (by omega) (by omega) (by omega)
      have hw1 : IntKind.i64.wrap (t3 - q) = t3 - q := IntWalk.i64_in _ (by omega)
      have hw2 : IntKind.i64.wrap (g2 * (t3 - q)) = g2 * (t3 - q) := IntWalk.i64_in _ (by omega)
      have hw3 : IntKind.i64.wrap (n0 + g2 * (t3 - q)) = n0 + g2 * (t3 - q) := IntWalk.i64_in _ (by omega)
      have hw4 : IntKind.i64.wrap (d0 + g2) = d0 + g2 := IntWalk.i64_in _ (by omega)
      have HEND := Lib.hid (HFI2.out.round (S := fun k => w.heap.size ≤ k ∧ k < w1.heap.size) (n' := n0 + g2 * (t3 - q)) (d' := d0 + g2) HS4.out HS5.out)
      have HEQ : Hid (KeepsOthers A ((A.setCell ⟨w.heap.size + 1 + 1, 0, none⟩ (.int .i64 (n0 + g2 * (t3 - q)))).setCell ⟨w.heap.size + 1 + 1 + 1, 0, none⟩ (.int .i64 (d0 + g2))) ∧ KeepsBut (fun k => w.heap.size ≤ k ∧ k < w1.heap.size) A ((A.setCell ⟨w.heap.size + 1 + 1, 0, none⟩ (.int .i64 (n0 + g2 * (t3 - q)))).setCell ⟨w.heap.size + 1 + 1 + 1, 0, none⟩ (.int .i64 (d0 + g2))) ∧ (TI w q (termN r.secs q (pre ++ [⟨g0, g1, g2⟩])) (termD r.secs q (pre ++ [⟨g0, g1, g2⟩])) ((A.setCell ⟨w.heap.size + 1 + 1, 0, none⟩ (.int .i64 (n0 + g2 * (t3 - q)))).setCell ⟨w.heap.size + 1 + 1 + 1, 0, none⟩ (.int .i64 (d0 + g2))) ∧ w1.heap.size ≤ ((A.setCell ⟨w.heap.size + 1 + 1, 0, none⟩ (.int .i64 (n0 + g2 * (t3 - q)))).setCell ⟨w.heap.size + 1 + 1 + 1, 0, none⟩ (.int .i64 (d0 + g2))).heap.size)) := Lib.hid (by
        have := HEND.out
        rw [← HNQ.out, ← HDQ.out, hsn, hsd]
        exact ⟨this.1, this.2.1, this.2.2, by simpa using HNN.out⟩)
      clear hfi hh3 hh4 hh5 h8 h9 hx hp hm hsn hsd hmul0 hmul1 HEND o0 o1 o2 o3 o4
      gi_wp2
      exact HEQ.out
    · rw [if_neg hin, Int.add_zero] at hsn hsd
      have HEQ : Hid (KeepsOthers A A ∧ KeepsBut (fun k => w.heap.size ≤ k ∧ k < w1.heap.size) A A ∧ TI w q (termN r.secs q (pre ++ [⟨g0, g1, g2⟩])) (termD r.secs q (pre ++ [⟨g0, g1, g2⟩])) A ∧ w1.heap.size ≤ A.heap.size) := Lib.hid ⟨KeepsOthers.refl A, keepsBut_refl A, by rw [← HNQ.out, ← HDQ.out, hsn, hsd]; exact HFI2.out, HNN.out⟩
      clear hfi hh3 hh4 hh5 h8 h9 hx hp hm hsn hsd o0 o1 o2 o3 o4
      gi_wp2
      exact HEQ.out
  case done =>
    rintro D A hD ⟨hfi, hNA⟩ hK
    have hh4 := hfi.b4
    have hh5 := hfi.b5
    have c4 := obj_cell hh4 0
    have f4 := obj_free hh4 0
    have c5 := obj_cell hh5 0
    have f5 := obj_free hh5 0
    simp at c4 c5
    have HFI2 := Lib.hid hfi
    have HKK := Lib.hid hK
    have HDW : Hid (w.heap.size + 1 + 1 + 1 + 1 ≤ D) := Lib.hid (Nat.le_trans HSZ.out hD)
    clear hfi hh4 hh5 hK
    gi_wp2
    gi_big_region_o
    gi_wp2
    let W := ((A.setCell ⟨w.heap.size + 1 + 1, 0, none⟩ (.int .i64 (termN r.secs q r.hs))).setCell ⟨w.heap.size + 1 + 1 + 1, 0, none⟩ (.int .i64 (termD r.secs q r.hs))).drew
    have hK1 := (KeepsOthers.setCell A ⟨w.heap.size + 1 + 1, 0, none⟩ (.int .i64 (termN r.secs q r.hs))).same _ _ HKK.out rfl
    have hK2 := (KeepsOthers.setCell (A.setCell ⟨w.heap.size + 1 + 1, 0, none⟩ (.int .i64 (termN r.secs q r.hs))) ⟨w.heap.size + 1 + 1 + 1, 0, none⟩ (.int .i64 (termD r.secs q r.hs))).same _ _ hK1 rfl
    have hK3 : W.heap[D]? = some (.deferred (some [])) := hK2
    have hg := grownBy_putObj' W D (.deferred none)
    have hTI : TI w q (termN r.secs q r.hs) (termD r.secs q r.hs) W := (HFI2.out.round (S := fun _ => True) trivial trivial).2.2.below ((Below.refl _ _).drew)
    have hfi2 := hTI.stay (N := w1.heap.size) (by have := HSZ.out; omega) hg (fun q e => by cases e; exact ⟨hD, _, hK3, rfl⟩)
    have hh4 := hfi2.b4
    have hh5 := hfi2.b5
    have d4 := obj_cell hh4 0
    have d5 := obj_cell hh5 0
    refine ⟨by simp, .inl ⟨_, _, rfl, run_takeDeferred hK3, ?_⟩⟩
    refine ⟨_, ?_, rfl, hfi2.old⟩
    simp [W] at d4 d5
    simp [results, Try.results22, go_sem, d4, d5]
  case stop =>
    rintro D c pre A hD hpre h hK
    exact h.elim

end Go.Proofs.Ytblidmkkbcobgaa
