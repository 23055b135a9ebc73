/- Contract of package ledger's Check, on right ledgers. -/
import Derived.Test.YtoccnindkimjdaaMLgS
import Derived.Test.YtoccnindkimjdaaMPut8
import Derived.Shelf.Abstract
set_option linter.unusedSimpArgs false
set_option linter.unusedVariables false
set_option linter.unusedSimpArgs false
set_option linter.unusedVariables false
namespace Go.Proofs.Ytoccnindkimjdaa
open Go.RowKit Go.Lib Go.Proofs

def prevP (l : List Pst) : Nat → Pst
  | 0 => Pst.zero
  | k + 1 => pstAt l k
theorem LdgOk.prev {l : List Pst} (h : LdgOk l) {k : Nat} (hk : k < l.length) : (pstAt l k).num = (prevP l k).num + 1 ∧ 0 ≤ (prevP l k).num ∧ (prevP l k).num ≤ 1000000 ∧ (prevP l k).day ≤ (pstAt l k).day := by
  have h1 := h.num k hk
  cases k with
  | zero => exact ⟨h1, Int.le_refl _, by show (0 : Int) ≤ _; omega, (h.ok 0 hk).day.1⟩
  | succ k =>
    have h2 := h.num k (by omega)
    have h3 := h.len
    show _ = (pstAt l k).num + 1 ∧ 0 ≤ (pstAt l k).num ∧ (pstAt l k).num ≤ _ ∧ (pstAt l k).day ≤ _
    exact ⟨by omega, by omega, by omega, h.asc k hk⟩

set_option maxHeartbeats 400000 in
theorem lgCheckC_ok {p : Pst} (h : PstOk p) (w : World) : Calls Try.prog 50 #[.agg (pstC p).toArray] w fun e w' => e = .returned (.bool false) ∧ Below w.heap.size w w' := by
  have HV := Lib.hid (fun W => lgPosting_right h W)
  obtain ⟨x0, x1, x2, x3, x4, x5, x6, x7⟩ := p
  simp only [pstC] at *
  have HB := Lib.hid (below_alloc w (.cells #[.int .i64 x0, .int .i64 x1, .int .i64 x2, .int .i64 x3, .int .i64 x4, .int .i64 x5, .int .i64 x6, .int .i64 x7] 55))
  clear h
  go_enter Try.func50, Try.ntmps50
  go_wp2_with (go_at_call 51; refine (HV.out _).mono ?_; rintro e w2 ⟨rfl, b2⟩)
  go_ret
  exact ⟨rfl, HB.out.trans (b2.mono HB.out.size)⟩

set_option maxRecDepth 100000 in
set_option maxHeartbeats 8000000 in
theorem lgCheck_right {l : List Pst} (h : LdgOk l) (v : Value) (w : World) (hl : PstsAt w v l) :
    Calls Try.prog 26 #[.agg #[v]] w fun e w' => e = .returned (.int .i64 0) ∧ Below w.heap.size w w' := by
  have hlen := h.len
  have HC := Lib.hid (fun W (hW : Below w.heap.size w W) => pstContains_any 50 #[] (enters_of Try.func50 (by kernel_rfl) rfl) (fun _ => false) l v W (hl.below hW) (by omega) fun x hx W2 _ => by
    have := lgCheckC_ok (h.mem x hx) W2
    simpa using this)
  rw [show (l.any fun _ => false) = false from List.any_eq_false.2 fun x hx => by simp] at HC
  obtain ⟨ao, cap, rfl, hcap, hcs⟩ := hl.open
  have HCS := Lib.hid hcs
  have HOK := Lib.hid h
  obtain ⟨n, hn⟩ : ∃ n, n = l.length := ⟨_, rfl⟩
  have HN := Lib.hid hn
  rw [← hn] at hcap hlen HC ⊢
  have hlen4 : ¬ (400 : Int) < (n : Int) := by omega
  have HX0 := Lib.hid (heap_alloc_new w (.cells #[.slice ao n cap] 27))
  have HB0 := Lib.hid (below_alloc w (.cells #[.slice ao n cap] 27))
  obtain ⟨bA, hbA⟩ : ∃ bA, bA = w.heap.size := ⟨_, rfl⟩
  have HBA := Lib.hid hbA
  have hbA0 := hbA
  clear hn hcs h hl hbA
  go_enter Try.func26, Try.ntmps26
  go_wp2_with fail
  refine (HC.out _ HB0.out).mono ?_
  rintro e w1 ⟨rfl, hb1⟩
  have HX1 : Hid (w1.heap[bA]? = some (.cells #[.slice ao n cap] 27 (0, 0))) := Lib.hid (by rw [HBA.out]; exact obj_below HX0.out hb1)
  have HB1 := Lib.hid (HB0.out.trans (hb1.mono HB0.out.size))
  have hba1 : bA < w1.heap.size := by
    have h1 := hb1.size
    rw [hbA0]
    simp at h1
    omega
  rw [← HBA.out]
  clear hb1 HX0 HB0 HC hbA0
  have hbx := HX1.out
  have u0 := obj_cell hbx 0
  simp at u0
  have HX9 := Lib.hid (heap_alloc_new w1 (.cells #[.int .i64 0, .int .i64 0, .int .i64 0, .int .i64 0, .int .i64 0, .int .i64 0, .int .i64 0, .int .i64 0] 55))
  have HB9 := Lib.hid (below_alloc w1 (.cells #[.int .i64 0, .int .i64 0, .int .i64 0, .int .i64 0, .int .i64 0, .int .i64 0, .int .i64 0, .int .i64 0] 55))
  have HS9 : Hid (w1.heap.size < (w1.alloc (.cells #[.int .i64 0, .int .i64 0, .int .i64 0, .int .i64 0, .int .i64 0, .int .i64 0, .int .i64 0, .int .i64 0] 55)).heap.size) := Lib.hid (by simp)
  go_wp2
  obtain ⟨bP, hbP⟩ : ∃ bP, bP = w1.heap.size := ⟨_, rfl⟩
  go_loopw [19] (fun i wr => ∃ k : Nat, i = .int .i64 k ∧ k ≤ n ∧ Hid (wr.heap[w1.heap.size]? = some (.cells (pstC (prevP l k)).toArray 55 (0, 0))) ∧ Hid (Below w1.heap.size w1 wr) ∧ w1.heap.size < wr.heap.size) (fun i _ => n - (RowKit.intOf i).toNat)
  case atStart => exact ⟨0, rfl, by omega, HX9, HB9, HS9.out⟩
  case round =>
    clear HX9 HB9 HS9
    obtain ⟨k, rfl, hkn, HX, HB, hsz⟩ := hrel
    by_cases hlt : k < n
    · have hkl' : k < l.length := by rw [← HN.out]; exact hlt
      obtain ⟨b, o, rfl, hb, hcc⟩ := HCS.out (by omega)
      have HWB := Lib.hid (HB1.out.trans (HB.out.mono HB1.out.size))
      have hcell := fun j (hj : j < 8) => (HWB.out.cell (p := ⟨b, o + k * 8 + j, none⟩) hb).trans (hcc k hkl' j hj)
      obtain ⟨q1, q2, q3, q4⟩ := HOK.out.prev hkl'
      have HF := Lib.hid (fun W => lgfollows_right q1 q2 q3 q4 W)
      have HNX : Hid (prevP l (k + 1) = pstAt l k) := Lib.hid rfl
      obtain ⟨y, hy⟩ : ∃ y, y = prevP l k := ⟨_, rfl⟩
      rw [← hy] at HX HF
      clear q1 q2 q3 q4 hy hcc
      generalize pstAt l k = x at *
      obtain ⟨x0, x1, x2, x3, x4, x5, x6, x7⟩ := x
      obtain ⟨y0, y1, y2, y3, y4, y5, y6, y7⟩ := y
      simp only [pstC] at HX HF
      have c0 := hcell 0 (by omega)
      have c1 := hcell 1 (by omega)
      have c2 := hcell 2 (by omega)
      have c3 := hcell 3 (by omega)
      have c4 := hcell 4 (by omega)
      have c5 := hcell 5 (by omega)
      have c6 := hcell 6 (by omega)
      have c7 := hcell 7 (by omega)
      simp [pstC] at c0 c1 c2 c3 c4 c5 c6 c7
      have hk0 : (0 : Int) ≤ (k : Int) := by omega
      have hk1 : (k : Int) < (n : Int) := by omega
      have hbx2 := HX.out
      have d0 := obj_cell hbx2 0
      have d1 := obj_cell hbx2 1
      have d2 := obj_cell hbx2 2
      have d3 := obj_cell hbx2 3
      have d4 := obj_cell hbx2 4
      have d5 := obj_cell hbx2 5
      have d6 := obj_cell hbx2 6
      have d7 := obj_cell hbx2 7
      simp at d0 d1 d2 d3 d4 d5 d6 d7
      have HXP := Lib.hid (heap_alloc_new wr (.cells #[.int .i64 x0, .int .i64 x1, .int .i64 x2, .int .i64 x3, .int .i64 x4, .int .i64 x5, .int .i64 x6, .int .i64 x7] 55))
      have HBP := Lib.hid (HB.out.alloc HB.out.size (.cells #[.int .i64 x0, .int .i64 x1, .int .i64 x2, .int .i64 x3, .int .i64 x4, .int .i64 x5, .int .i64 x6, .int .i64 x7] 55))
      have hne : w1.heap.size ≠ wr.heap.size := by omega
      have HXB : Hid ((wr.alloc (.cells #[.int .i64 x0, .int .i64 x1, .int .i64 x2, .int .i64 x3, .int .i64 x4, .int .i64 x5, .int .i64 x6, .int .i64 x7] 55)).heap[w1.heap.size]? = some (.cells #[.int .i64 y0, .int .i64 y1, .int .i64 y2, .int .i64 y3, .int .i64 y4, .int .i64 y5, .int .i64 y6, .int .i64 y7] 55 (0, 0))) := Lib.hid (obj_below hbx2 (below_alloc wr _))
      clear hcell hbx2
      go_wp2_with fail
      refine (HF.out _).mono ?_
      rintro e w3 ⟨rfl, hb3⟩
      have HX3 := Lib.hid (obj_below HXB.out hb3)
      have hxp := obj_below HXP.out hb3
      have e0 := obj_cell hxp 0
      have e1 := obj_cell hxp 1
      have e2 := obj_cell hxp 2
      have e3 := obj_cell hxp 3
      have e4 := obj_cell hxp 4
      have e5 := obj_cell hxp 5
      have e6 := obj_cell hxp 6
      have e7 := obj_cell hxp 7
      simp at e0 e1 e2 e3 e4 e5 e6 e7
      have HB3 := Lib.hid (HBP.out.trans (hb3.mono HBP.out.size))
      have hs3 : w1.heap.size < w3.heap.size := by have := hb3.size; simp at this; omega
      have hbx3 := HX3.out
      have f0 := obj_cell hbx3 0
      have f1 := obj_cell hbx3 1
      have f2 := obj_cell hbx3 2
      have f3 := obj_cell hbx3 3
      have f4 := obj_cell hbx3 4
      have f5 := obj_cell hbx3 5
      have f6 := obj_cell hbx3 6
      have f7 := obj_cell hbx3 7
      simp at f0 f1 f2 f3 f4 f5 f6 f7
      have z0 := obj_free hbx3 0
      have z1 := obj_free hbx3 1
      have z2 := obj_free hbx3 2
      have z3 := obj_free hbx3 3
      have z4 := obj_free hbx3 4
      have z5 := obj_free hbx3 5
      have z6 := obj_free hbx3 6
      have z7 := obj_free hbx3 7
      clear hbx3 hxp c0 c1 c2 c3 c4 c5 c6 c7 d0 d1 d2 d3 d4 d5 d6 d7 HXP HBP HXB HF hb3
      go_wp2
      go_roundw
      case rel => exact ⟨k + 1, by first | rfl | go_num, by omega, Lib.hid (by rw [HNX.out]; exact put8_at HX3.out rfl _ _ _ _ _ _ _ _), Lib.hid (put8_below HB3.out (Nat.le_refl _) _ _ _ _ _ _ _ _), by simp only [World.size_setCell]; exact hs3⟩
      case measure => simp [RowKit.intOf]; omega
    · obtain rfl : k = n := by omega
      go_wp2
      go_ret
      exact ⟨rfl, HB1.out.trans (HB.out.mono HB1.out.size)⟩

end Go.Proofs.Ytoccnindkimjdaa
