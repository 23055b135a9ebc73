/- risk.later of every right register: what falls due behind a year. -/
import Derived.Test.YtblidmkkbcobgaaMRkF
set_option linter.unusedSimpArgs false
set_option linter.unusedVariables false
set_option linter.unusedSimpArgs false
set_option linter.unusedVariables false
namespace Go.Proofs.Ytblidmkkbcobgaa
open Go.RowKit Go.Lib Go.Proofs
attribute [local go_sem] Oper.semAt_some

def laterP (secs : List Sec) (y : Int) (pre : List Hld) : Int := sumH (fun h => decide (y < dueY secs h)) pre
theorem laterP_snoc (secs : List Sec) (y : Int) (pre : List Hld) (x : Hld) : laterP secs y (pre ++ [x]) = laterP secs y pre + (if y < dueY secs x then x.amt else 0) := by
  unfold laterP
  rw [sumH_app]
  by_cases h : y < dueY secs x <;> simp [sumH, h]

/-- A world within later. -/
structure LI (w : World) (y s : Int) (A : World) : Prop where
  b3 : A.heap[w.heap.size + 1]? = some (.cells #[.int .i64 y] 3 (0, 0))
  b5 : A.heap[w.heap.size + 1 + 1]? = some (.cells #[.int .i64 s] 3 (0, 0))
  old : Below w.heap.size w A
theorem LI.below {w : World} {y s : Int} {A B : World} (h : LI w y s A) (hb : Below A.heap.size A B) : LI w y s B :=
  ⟨obj_below h.b3 hb, obj_below h.b5 hb, h.old.trans (hb.mono h.old.size)⟩
theorem LI.stay {w : World} {N : Nat} {y s : Int} {A B : World} {row : Option Nat} (h : LI w y s A) (hN : w.heap.size ≤ N) (hg : A.grownBy B row) (hr : ∀ r, row = some r → N ≤ r ∧ ∃ o : Obj, A.heap[r]? = some o ∧ o.isCells = false) : LI w y s B :=
  ⟨cells_stay h.b3 hg hr, cells_stay h.b5 hg hr, h.old.grown hg h.old.size fun j e => by have := (hr j (by first | exact e | exact e.symm)).1; omega⟩
theorem LI.still {S : Nat → Prop} {w : World} {y s : Int} {A : World} (h : LI w y s A) : KeepsOthers A A.drew ∧ KeepsBut S A A.drew ∧ LI w y s A.drew := by
  have hb : Below A.heap.size A A.drew := (Below.refl _ _).drew
  have hs := (stepB_below (S := S) hb).keeps
  exact ⟨hs.1, hs.2, h.below hb⟩
theorem LI.round {S : Nat → Prop} {w : World} {y s v : Int} {A : World} (h : LI w y s A) (h4 : S (w.heap.size + 1 + 1)) :
    KeepsOthers A (A.setCell ⟨w.heap.size + 1 + 1, 0, none⟩ (.int .i64 v)).drew ∧ KeepsBut S A (A.setCell ⟨w.heap.size + 1 + 1, 0, none⟩ (.int .i64 v)).drew ∧ LI w y v (A.setCell ⟨w.heap.size + 1 + 1, 0, none⟩ (.int .i64 v)).drew := by
  have hb : Below (A.setCell ⟨w.heap.size + 1 + 1, 0, none⟩ (.int .i64 v)).heap.size (A.setCell ⟨w.heap.size + 1 + 1, 0, none⟩ (.int .i64 v)) (A.setCell ⟨w.heap.size + 1 + 1, 0, none⟩ (.int .i64 v)).drew := (Below.refl _ _).drew
  have hs := ((stepB_set (S := S) (A := A) (i := 0) (v := .int .i64 v) h4).trans (stepB_below hb)).keeps
  refine ⟨hs.1, hs.2, LI.below ⟨(Below.heap_setCell A ⟨w.heap.size + 1 + 1, 0, none⟩ _ _ (by show _ ≠ w.heap.size + 1 + 1; omega)).trans h.b3, ?_, h.old.setCell (by show _ ≤ w.heap.size + 1 + 1; omega) _⟩ hb⟩
  have := obj_set h.b5 0 (.int .i64 v)
  simpa using this
theorem later_start (w : World) (x y z : Value) (q : Int) : LI w q 0 (((w.alloc (.cells #[x, y, z] 93)).alloc (.cells #[.int .i64 q] 3)).alloc (.cells #[.int .i64 0] 3)) ∧ (((w.alloc (.cells #[x, y, z] 93)).alloc (.cells #[.int .i64 q] 3)).alloc (.cells #[.int .i64 0] 3)).heap[w.heap.size]? = some (.cells #[x, y, z] 93 (0, 0)) := by
  refine ⟨⟨?_, ?_, (((Below.refl w.heap.size w).alloc (Nat.le_refl _) _).alloc (by simp) _).alloc (by simp; omega) _⟩, obj_below (obj_below (heap_alloc_new w _) (below_alloc _ _)) (below_alloc _ _)⟩
  · have := heap_alloc_new (w.alloc (.cells #[x, y, z] 93)) (.cells #[.int .i64 q] 3)
    rw [World.size_alloc] at this
    exact obj_below this (below_alloc _ _)
  · have := heap_alloc_new ((w.alloc (.cells #[x, y, z] 93)).alloc (.cells #[.int .i64 q] 3)) (.cells #[.int .i64 0] 3)
    rw [World.size_alloc, World.size_alloc] at this
    exact this

def LAx (r : Reg) (w : World) (N : Nat) (y : Int) (D : Value) (pre : List Hld) (x : Hld) (a' : Act) (A : World) : Prop :=
  ∃ b8 b9 : Nat, N ≤ b8 ∧ N ≤ b9 ∧ A.heap[b8]? = some (.cells (secAt r.secs x.sec).cells.toArray 55 (0, 0)) ∧ A.heap[b9]? = some (.cells (hldC x).toArray 53 (0, 0)) ∧ LI w y (laterP r.secs y pre) A ∧
    a' = { tmps := #[D, .int .i64 y, .pointer (some ⟨w.heap.size, 0, none⟩), .pointer (some ⟨w.heap.size + 1, 0, none⟩), .int .i64 0, .pointer (some ⟨w.heap.size + 1 + 1, 0, none⟩), .pointer (some ⟨b8, 0, none⟩), .pointer (some ⟨b9, 0, none⟩), D, .func (.func 63) #[D] #[], .agg (secAt r.secs x.sec).cells.toArray, .agg (hldC x).toArray, undef, undef, undef, undef, undef, undef, undef, undef, undef, undef], defers := [] }

set_option maxRecDepth 100000 in
set_option maxHeartbeats 8000000 in
theorem rilater_ok (r : Reg) (x y z : Value) (q : Int) (w : World) (h : RegOk r) (hr : RegAt w x y z r) (hf : 0 ≤ q ∧ q ≤ 200) :
    Calls Try.prog 51 #[.agg #[x, y, z], .int .i64 q] w fun e w' => e = .returned (.int .i64 (laterM r q)) ∧ Below w.heap.size w w' := by
  refine (callsIn_wide (n := 0)).1 ?_
  have HOK := Lib.hid h
  have HREG := Lib.hid hr
  have hmo : Try.prog.follows .mixedOrders = true := by kernel_rfl
  have hst := later_start w x y z q
  have HFI := Lib.hid hst.1
  have hb0 := hst.2
  have q0 := obj_cell hb0 0
  have q1 := obj_cell hb0 1
  have q2 := obj_cell hb0 2
  simp at q0 q1 q2
  obtain ⟨WL, hWL⟩ : ∃ WL, WL = ((w.alloc (.cells #[x, y, z] 93)).alloc (.cells #[.int .i64 q] 3)).alloc (.cells #[.int .i64 0] 3) := ⟨_, rfl⟩
  have HSZ : Hid (WL.heap.size = w.heap.size + 1 + 1 + 1) := Lib.hid (by rw [hWL]; simp)
  rw [← hWL] at HFI
  clear h hr hst hb0
  refine callsIn_of_wp_marks Try.func51 rfl trivial ?_ rfl
  simp only [Try.ntmps51, List.size_toArray, List.length_cons, List.length_nil, Nat.reduceAdd, Nat.reduceSub, Array.replicate_succ, Array.replicate_zero, List.push_toArray, List.append_toArray, List.nil_append, List.cons_append]
  gi_wp2
  rw [← hWL]
  clear hWL q0 q1 q2
  refine range_pairs (gf := 63) (fst := #[.agg #[x, y, z]]) (lb := #[]) (xs := r.hs) (encs := heldV r) (Kp := KeepsBut fun k => w.heap.size ≤ k ∧ k < WL.heap.size) rfl (enters_of Try.func63 (by kernel_rfl) rfl)
    (riheld_in r x y z w WL _ HOK.out HREG.out (KeptC.of_below (Nat.le_refl _) HFI.out.old) (fun k hk => hk)) keepsBut_t keepsBut_b keepsBut_below (fun _ => rfl)
    (fun pre A => LI w q (laterP r.secs q pre) A) (fun _ _ _ => False)
    (fun s A B row hs hg hr => hs.stay (by have := HSZ.out; omega) hg hr) (fun c pre A B row h hg hr => h.elim) (fun pre A B h hb => h.below hb) HFI.out
    (LAx r w WL.heap.size q (.agg #[x, y, z]))
    (fun pre x a' A l o o' hl ho hc h => by
      obtain ⟨b8, b9, h1, h2, h3, h4, h5, h6⟩ := h
      have hg := grownBy_putObj' A l o'
      have hr : ∀ r, (some l : Option Nat) = some r → WL.heap.size ≤ r ∧ ∃ o : Obj, A.heap[r]? = some o ∧ o.isCells = false := fun r e => by cases e; exact ⟨hl, o, ho, hc⟩
      exact ⟨b8, b9, h1, h2, cells_stay h3 hg hr, cells_stay h4 hg hr, h5.stay (by have := HSZ.out; omega) hg hr, h6⟩)
    ?assign ?body ?done ?stop
  case assign =>
    rintro l pre ⟨g0, g1, g2⟩ A K hp hI hK
    have HKK := Lib.hid hK
    have HII := Lib.hid hI
    have HXL : Hid (WL.heap.size ≤ A.heap.size) := Lib.hid (by
      have h1 := obj_lt hI.b5
      have := HSZ.out
      omega)
    unfold heldV
    obtain ⟨s, hs⟩ : ∃ s, s = secAt r.secs g0 := ⟨_, rfl⟩
    have HSS := Lib.hid hs
    simp only [← hs, hldC]
    obtain ⟨t0, t1, t2, t3, t4, t5, t6⟩ := s
    simp only [Sec.cells]
    clear hs hK hI hp
    gi_wp2
    refine HKK.out _ _ ⟨A.heap.size, A.heap.size + 1, HXL.out, by have := HXL.out; omega, ?_, ?_, HII.out.below (below2 A _ _), ?_⟩ (below2 A _ _)
    · rw [← HSS.out]; exact alloc1_at A _ _
    · exact alloc2_at A _ _
    · rw [← HSS.out]; rfl
  case body =>
    rintro l pre ⟨g0, g1, g2⟩ a' A hp ⟨b8, b9, h8l, h9l, h8, h9, hfi, rfl⟩
    have HS4 : Hid ((fun k => w.heap.size ≤ k ∧ k < WL.heap.size) (w.heap.size + 1 + 1)) := Lib.hid (by show w.heap.size ≤ w.heap.size + 1 + 1 ∧ w.heap.size + 1 + 1 < WL.heap.size; have := HSZ.out; omega)
    have hx : (⟨g0, g1, g2⟩ : Hld) ∈ r.hs := hp.subset (by simp)
    have hm := ((HOK.out.known _ hx).2.1).mat
    have hd := HOK.out.due _ hx
    have hsn := laterP_snoc r.secs q pre ⟨g0, g1, g2⟩
    have HBD : Hid (0 ≤ laterP r.secs q pre ∧ laterP r.secs q pre + g2 ≤ 20000000000000 ∧ 1 ≤ g2) := Lib.hid (prefix_in HOK.out hp _)
    unfold dueY at hsn hd
    simp only [hldC] at h9 ⊢
    simp only at hsn hd hm
    obtain ⟨L2, hL2⟩ : ∃ L2, L2 = laterP r.secs q (pre ++ [⟨g0, g1, g2⟩]) := ⟨_, rfl⟩
    have HLQ := Lib.hid hL2
    rw [← hL2] at hsn
    clear hL2
    generalize laterP r.secs q pre = L at *
    generalize secAt r.secs g0 = s at *
    obtain ⟨t0, t1, t2, t3, t4, t5, t6⟩ := s
    simp only [Sec.cells] at h8 hd hm hsn ⊢
    have HYR : ∀ W, Hid (CallsIn (Fence.wide.inRound l) 0 Try.prog 101 #[.int .i64 t3] W fun e w' => e = .returned (.int .i64 (t3 / 360)) ∧ W = w') := fun W => Lib.hid (CallsIn.inRound l (callsIn_wide.2 (cYear_yes t3 W (dayB_true.2 ⟨by omega, by omega⟩))))
    obtain ⟨d, hdd⟩ : ∃ d, d = t3 / 360 := ⟨_, rfl⟩
    rw [← hdd] at HYR hsn hd
    have hh4 := hfi.b3
    have hh5 := hfi.b5
    have c4 := obj_cell hh4 0
    have c5 := obj_cell hh5 0
    have fr := obj_free hh5 0
    have e3 := obj_cell h8 3
    have k2 := obj_cell h9 2
    simp at c4 c5 e3 k2
    have HFI := Lib.hid hfi
    obtain ⟨o0, o1, o2⟩ := HBD.out
    have hwo : IntKind.i64.wrap (L + g2) = L + g2 := IntWalk.i64_in _ (by omega)
    clear hfi hh4 hh5 h8 h9 hx hp hm hdd HBD
    by_cases hin : q < d
    · rw [if_pos hin] at hsn
      have HEND := Lib.hid (HFI.out.round (S := fun k => w.heap.size ≤ k ∧ k < WL.heap.size) (v := L + g2) HS4.out)
      have HEQ := Lib.hid (hsn.symm.trans HLQ.out)
      clear hsn
      rw [HEQ.out] at HEND
      rw [HEQ.out] at hwo
      have hwo2 : IntKind.i64.wrap (L + g2) = laterP r.secs q (pre ++ [⟨g0, g1, g2⟩]) := by rw [HEQ.out]; exact hwo
      clear hwo
      gi_wp2
      gi_region_with_o (refine ⟨trivial, rfl, ?_⟩; gi_at_call 101; refine ((HYR _).out).mono ?_; rintro e w' ⟨rfl, rfl⟩)
      all_goals
        gi_wp2
      all_goals exact HEND.out
    · rw [if_neg hin, Int.add_zero] at hsn
      have HEND := Lib.hid (HFI.out.still (S := fun k => w.heap.size ≤ k ∧ k < WL.heap.size))
      rw [← hsn, HLQ.out] at HEND
      clear hsn
      clear hwo
      gi_wp2
      gi_region_with_o (refine ⟨trivial, rfl, ?_⟩; gi_at_call 101; refine ((HYR _).out).mono ?_; rintro e w' ⟨rfl, rfl⟩)
      all_goals
        gi_wp2
      all_goals exact HEND.out
  case done =>
    rintro D A hD hfi hK
    have hh7 := hfi.b5
    have c7 := obj_cell hh7 0
    simp at c7
    have HFI := Lib.hid hfi
    have HKK := Lib.hid hK
    clear hfi hh7 hK
    gi_wp2
    have hfi2 := HFI.out.stay (N := WL.heap.size) (by have := HSZ.out; omega) (grownBy_putObj' A D (.deferred none)) (fun q e => by cases e; exact ⟨hD, _, HKK.out, rfl⟩)
    refine ⟨by simp, .inl ⟨_, _, rfl, run_takeDeferred HKK.out, ?_⟩⟩
    exact ⟨_, results_tmp rfl _ _ _, rfl, hfi2.old⟩
  case stop =>
    rintro D c pre A hD hpre h hK
    exact h.elim

end Go.Proofs.Ytblidmkkbcobgaa
