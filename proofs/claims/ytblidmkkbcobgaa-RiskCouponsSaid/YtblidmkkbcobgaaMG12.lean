/- Texts of one claim, merged: RkP, Put4. -/
import Derived.Test.YtblidmkkbcobgaaMRkF
import Derived.Test.YtblidmkkbcobgaaMG11
import Derived.Test.YtblidmkkbcobgaaMClnI
import Derived.Test.YtblidmkkbcobgaaMSlJ
import Derived.Test.YtblidmkkbcobgaaMRegInv
import Derived.Test.YtblidmkkbcobgaaMG2
/- risk's small functions: tests of numbers, Path, Shifted, Falls, slices.Max and Greatest, of right registers and valid paths. -/
set_option linter.unusedSimpArgs false
set_option linter.unusedVariables false
set_option linter.unusedSimpArgs false
set_option linter.unusedVariables false
namespace Go.Proofs.Ytblidmkkbcobgaa
open Go.RowKit Go.Lib Go.Proofs

set_option maxHeartbeats 400000 in
theorem riisRate_any (n : Int) (w : World) :
    Calls Try.prog 57 #[.int .i64 n] w fun e w' => e = .returned (.bool (inB n 0 20000)) ∧ w = w' := by
  by_cases h1 : 0 ≤ n
  · by_cases h2 : n ≤ 20000
    · rw [show inB n 0 20000 = true from inB_true.2 ⟨h1, h2⟩]
      go_enter Try.func57, Try.ntmps57
      go_wp2
      go_ret
      exact ⟨rfl, rfl⟩
    · rw [show inB n 0 20000 = false from inB_false.2 (fun q => h2 q.2)]
      go_enter Try.func57, Try.ntmps57
      go_wp2
      go_ret
      exact ⟨rfl, rfl⟩
  · rw [show inB n 0 20000 = false from inB_false.2 (fun q => h1 q.1)]
    go_enter Try.func57, Try.ntmps57
    go_wp2
    go_ret
    exact ⟨rfl, rfl⟩
theorem riisRate_yes {n : Int} (w : World) (h1 : 0 ≤ n) (h2 : n ≤ 20000) : Calls Try.prog 57 #[.int .i64 n] w fun e w' => e = .returned (.bool true) ∧ w = w' := by
  have := riisRate_any n w; rw [inB_true.2 ⟨h1, h2⟩] at this; exact this

set_option maxHeartbeats 400000 in
theorem riisHorizon_any (n : Int) (w : World) :
    Calls Try.prog 54 #[.int .i64 n] w fun e w' => e = .returned (.bool (inB n 1 60)) ∧ w = w' := by
  by_cases h1 : 1 ≤ n
  · by_cases h2 : n ≤ 60
    · rw [show inB n 1 60 = true from inB_true.2 ⟨h1, h2⟩]
      go_enter Try.func54, Try.ntmps54
      go_wp2
      go_ret
      exact ⟨rfl, rfl⟩
    · rw [show inB n 1 60 = false from inB_false.2 (fun q => h2 q.2)]
      go_enter Try.func54, Try.ntmps54
      go_wp2
      go_ret
      exact ⟨rfl, rfl⟩
  · rw [show inB n 1 60 = false from inB_false.2 (fun q => h1 q.1)]
    go_enter Try.func54, Try.ntmps54
    go_wp2
    go_ret
    exact ⟨rfl, rfl⟩
theorem riisHorizon_yes {n : Int} (w : World) (h1 : 1 ≤ n) (h2 : n ≤ 60) : Calls Try.prog 54 #[.int .i64 n] w fun e w' => e = .returned (.bool true) ∧ w = w' := by
  have := riisHorizon_any n w; rw [inB_true.2 ⟨h1, h2⟩] at this; exact this

set_option maxHeartbeats 400000 in
theorem riisFirst_any (n : Int) (w : World) :
    Calls Try.prog 47 #[.int .i64 n] w fun e w' => e = .returned (.bool (inB n 0 100)) ∧ w = w' := by
  by_cases h1 : 0 ≤ n
  · by_cases h2 : n ≤ 100
    · rw [show inB n 0 100 = true from inB_true.2 ⟨h1, h2⟩]
      go_enter Try.func47, Try.ntmps47
      go_wp2
      go_ret
      exact ⟨rfl, rfl⟩
    · rw [show inB n 0 100 = false from inB_false.2 (fun q => h2 q.2)]
      go_enter Try.func47, Try.ntmps47
      go_wp2
      go_ret
      exact ⟨rfl, rfl⟩
  · rw [show inB n 0 100 = false from inB_false.2 (fun q => h1 q.1)]
    go_enter Try.func47, Try.ntmps47
    go_wp2
    go_ret
    exact ⟨rfl, rfl⟩
theorem riisFirst_yes {n : Int} (w : World) (h1 : 0 ≤ n) (h2 : n ≤ 100) : Calls Try.prog 47 #[.int .i64 n] w fun e w' => e = .returned (.bool true) ∧ w = w' := by
  have := riisFirst_any n w; rw [inB_true.2 ⟨h1, h2⟩] at this; exact this

set_option maxHeartbeats 400000 in
theorem riPathC_any (n : Int) (w : World) : Calls Try.prog 56 (#[.int .i64 n] ++ #[]) w fun e w' => e = .returned (.bool (!inB n 0 20000)) ∧ Below w.heap.size w w' := by
  show Calls Try.prog 56 #[.int .i64 n] w _
  obtain ⟨c, hc⟩ : ∃ c, c = inB n 0 20000 := ⟨_, rfl⟩
  have H := Lib.hid (riisRate_any n w)
  rw [← hc] at H ⊢
  clear hc
  go_enter Try.func56, Try.ntmps56
  go_wp2_with fail
  refine H.out.mono ?_
  rintro e w' ⟨rfl, rfl⟩
  go_wp2
  go_ret
  exact ⟨rfl, Below.refl _ _⟩

set_option maxHeartbeats 1000000 in
theorem riPath_ok (l : List Int) (v : Value) (w : World) (hl : ListAt intC 1 w v l) (h0 : 1 ≤ l.length ∧ l.length ≤ 60) (hq : RatesOk l) :
    Calls Try.prog 18 #[v] w fun e w' => e = .returned (.bool true) ∧ Below w.heap.size w w' := by
  have hno : (l.any fun q => !inB q 0 20000) = false := List.any_eq_false.2 fun q hx => by
    rw [inB_true.2 (hq q hx)]; decide
  have H := Lib.hid (intContains_any 56 #[] (enters_of Try.func56 (by kernel_rfl) rfl) (fun q => !inB q 0 20000) l v w hl (by omega) (fun x _ W _ => riPathC_any x W))
  rw [hno] at H
  obtain ⟨ao, cap, rfl, hcap, -⟩ := hl.shape intF
  have HZ := Lib.hid (riisHorizon_yes (n := (l.length : Int)) w (by omega) (by omega))
  clear hl hno hq
  go_enter Try.func18, Try.ntmps18
  go_wp2_with fail
  refine HZ.out.mono ?_
  rintro e w' ⟨rfl, rfl⟩
  go_wp2_with fail
  refine H.out.mono ?_
  rintro e w' ⟨rfl, hb⟩
  go_wp2
  go_ret
  exact ⟨rfl, hb⟩

theorem mixed_set {A l : List Int} {k : Nat} (hA : A.length = l.length) (hk : k < l.length) : (A.take k ++ l.drop k).set k (A[k]'(by omega)) = A.take (k + 1) ++ l.drop (k + 1) := by
  have h1 : (A.take k).length = k := by rw [List.length_take]; omega
  rw [List.set_append_right _ _ (by omega), h1, Nat.sub_self, List.drop_eq_getElem_cons hk, List.set_cons_zero]
  have h2 : A.take (k + 1) = A.take k ++ [A[k]'(by omega)] := List.take_succ_eq_append_getElem (by omega)
  rw [h2, List.append_assoc]
  rfl
theorem mixed_get {A l : List Int} {k : Nat} (hA : A.length = l.length) (hk : k < l.length) : (A.take k ++ l.drop k).getD k 0 = l[k] := by
  have h1 : (A.take k).length = k := by rw [List.length_take]; omega
  rw [List.getD_eq_getElem?_getD, List.getElem?_append_right (by omega), h1, Nat.sub_self, List.getElem?_drop]
  simp [hk]

set_option maxRecDepth 100000 in
set_option maxHeartbeats 4000000 in
theorem rishifted_ok (l : List Int) (d : Int) (v : Value) (w : World) (hl : ListAt intC 1 w v l) (h0 : 1 ≤ l.length ∧ l.length ≤ 60) (hq : RatesOk l) (hd : -20000 ≤ d ∧ d ≤ 20000) :
    Calls Try.prog 19 #[v, .int .i64 d] w fun e w' => ∃ v', e = .returned v' ∧ w'.ownsRow w.heap.size 3 1 v' l.length (cellsI (l.map (shiftM d))) ∧ Below w.heap.size w w' := by
  have HCL := Lib.hid (cloneI_any intC intF l v w hl (by omega))
  rw [cellsL_int] at HCL
  obtain ⟨A, hA⟩ : ∃ A, A = l.map (shiftM d) := ⟨_, rfl⟩
  have HAL : Hid (A.length = l.length) := Lib.hid (by rw [hA]; simp)
  have HAG : Hid (∀ k (h : k < l.length), A[k]'(by rw [HAL.out]; exact h) = shiftM d l[k]) := Lib.hid fun k h => by simp [hA]
  rw [← hA]
  have HQ := Lib.hid hq
  have hby : max (-20000) (min d 20000) = d := by omega
  obtain ⟨n, hn⟩ : ∃ n, n = l.length := ⟨_, rfl⟩
  have HN := Lib.hid hn
  rw [← hn] at HCL h0 ⊢
  clear hl hq hA hn
  go_enter Try.func19, Try.ntmps19
  go_wp2_with fail
  refine HCL.out.mono ?_
  rintro e w1 ⟨u, rfl, ho, hb⟩
  obtain ⟨g, cap, rfl, hgb, hcp⟩ := owns_shape ho (by omega)
  have HO : Hid (w1.ownsRow w.heap.size 3 1 (.slice (some ⟨g, 0, none⟩) n cap) n (cellsI (A.take 0 ++ l.drop 0))) := Lib.hid (by simpa using ho)
  have HB := Lib.hid hb
  have HGB := Lib.hid hgb
  clear ho hb hgb HCL hby
  go_wp2
  go_loopw [15] (fun iv wr => ∃ k : Nat, iv = .int .i64 (k : Int) ∧ k ≤ n ∧ Hid (wr.ownsRow w.heap.size 3 1 (.slice (some ⟨g, 0, none⟩) n cap) n (cellsI (A.take k ++ l.drop k))) ∧ Hid (Below w.heap.size w wr)) (fun iv _ => n - (RowKit.intOf iv).toNat)
  case atStart => exact ⟨0, rfl, by omega, HO, HB⟩
  case round =>
    clear HO HB
    obtain ⟨k, rfl, hkn, HO, HB⟩ := hrel
    by_cases hlk : k < n
    · have hkl : k < l.length := by rw [← HN.out]; exact hlk
      have hrt := HQ.out l[k] (List.getElem_mem hkl)
      have hlen : (A.take k ++ l.drop k).length = n := by
        have := HAL.out; have := HN.out
        rw [List.length_append, List.length_take, List.length_drop]; omega
      have c0 : wr.cell? ⟨g, k, none⟩ = some (.int .i64 l[k]) := by
        rw [HO.out.cellAt k (by omega), cellsI_get _ _ (by rw [hlen]; exact hlk), mixed_get HAL.out hkl]
      have f0 := HO.out.frozenAt k
      have hst := HO.out.stored k (.int .i64 (shiftM d l[k]))
      rw [cellsI_set, ← HAG.out k hkl, mixed_set HAL.out hkl, HAG.out k hkl] at hst
      have HST := Lib.hid hst
      have HSB : Hid (Below w.heap.size w (wr.setCell ⟨g, k, none⟩ (.int .i64 (shiftM d l[k])))) := Lib.hid (HB.out.setCell (by exact HGB.out) _)
      clear hst hlen
      generalize l[k] = q at *
      clear hkl
      have hsh : max 0 (min (q + d) 20000) = shiftM d q := rfl
      obtain ⟨sq, hsq⟩ : ∃ sq, sq = shiftM d q := ⟨_, rfl⟩
      rw [← hsq] at hsh HST HSB
      have hwq : IntKind.i64.wrap (q + d) = q + d := IntWalk.i64_in _ (by omega)
      have hwk : IntKind.i64.wrap ((k : Int) + 1) = (k : Int) + 1 := IntWalk.i64_in _ (by omega)
      have hk0 : (0 : Int) ≤ (k : Int) := by omega
      have hk1 : (k : Int) < (n : Int) := by omega
      have HIR := Lib.hid (fun W => riisRate_yes (n := q) W hrt.1 hrt.2)
      clear hrt hsq
      go_wp2_with fail
      refine (HIR.out _).mono ?_
      rintro e w' ⟨rfl, rfl⟩
      go_wp2
      go_roundw
      case rel => exact ⟨k + 1, by first | rfl | go_num, by omega, Lib.hid HST.out.1, HSB⟩
      case measure => simp [RowKit.intOf]; omega
    · obtain rfl : k = n := by omega
      have HE : Hid (wr.ownsRow w.heap.size 3 1 (.slice (some ⟨g, 0, none⟩) k cap) k (cellsI A)) := Lib.hid (by
        have := HO.out
        rwa [List.take_of_length_le (by rw [HAL.out, HN.out]; exact Nat.le_refl _), List.drop_of_length_le (by rw [HN.out]; exact Nat.le_refl _), List.append_nil] at this)
      go_wp2
      go_ret
      exact ⟨_, rfl, HE.out, HB.out⟩

set_option maxHeartbeats 2000000 in
theorem riFalls_ok (r : Reg) (x y z : Value) (first : Int) (n : Nat) (w : World) (h : RegOk r) (hr : RegAt w x y z r) (hf : 0 ≤ first ∧ first ≤ 100) (hn : 1 ≤ n ∧ n ≤ 60) :
    Calls Try.prog 20 #[.agg #[x, y, z], .int .i64 first, .int .i64 (n : Int)] w fun e w' => ∃ v, e = .returned (.tuple #[v, .int .i64 0]) ∧ w'.ownsRow w.heap.size 3 1 v n (cellsI (fallsL r first n)) ∧ Below w.heap.size w w' := by
  have HB0 := Lib.hid (below_alloc w (.cells #[x, y, z] 29))
  have HX0 := Lib.hid (heap_alloc_new w (.cells #[x, y, z] 29))
  obtain ⟨w0, hw0⟩ : ∃ w0, w0 = w.alloc (.cells #[x, y, z] 29) := ⟨_, rfl⟩
  rw [← hw0] at HB0 HX0
  have HCK := Lib.hid (rxCheck_any r x y z w0 h.regS (hr.below HB0.out))
  rw [checkR_ok h] at HCK
  have HFA := Lib.hid (fun W (hW : Below w.heap.size w W) => rifalls_ok r x y z first n W h (hr.below hW) hf hn)
  have HIF := Lib.hid (fun W => riisFirst_yes (n := first) W hf.1 hf.2)
  have HIH := Lib.hid (fun W => riisHorizon_yes (n := (n : Int)) W (by omega) (by omega))
  have hx := HX0.out
  have a0 := obj_cell hx 0
  have a1 := obj_cell hx 1
  have a2 := obj_cell hx 2
  simp at a0 a1 a2
  clear h hr hx
  go_enter Try.func20, Try.ntmps20
  go_upto_region 1 with fail
  rw [← hw0]
  clear hw0
  go_wp2_with fail
  refine HCK.out.mono ?_
  rintro e w1 ⟨rfl, hb1⟩
  have HB1 := Lib.hid (HB0.out.trans (hb1.mono HB0.out.size))
  have hx1 := obj_below HX0.out hb1
  have d0 := obj_cell hx1 0
  have d1 := obj_cell hx1 1
  have d2 := obj_cell hx1 2
  simp at d0 d1 d2
  clear a0 a1 a2 hx1 hb1 HCK
  go_wp2_with fail
  refine (HIF.out _).mono ?_
  rintro e w' ⟨rfl, rfl⟩
  go_wp2_with fail
  refine (HIH.out _).mono ?_
  rintro e w' ⟨rfl, rfl⟩
  go_wp2_with fail
  refine (HFA.out _ HB1.out).mono ?_
  rintro e w2 ⟨v, rfl, ho, hb2⟩
  have HO := Lib.hid (ownsRow_mono ho HB1.out.size)
  have HB2 := Lib.hid (HB1.out.trans (hb2.mono HB1.out.size))
  obtain ⟨ao, cap, rfl, hcap, -⟩ := owns_gen ho
  clear ho hb2
  go_wp2
  go_ret2
  exact ⟨_, rfl, HO.out, HB2.out⟩

set_option maxHeartbeats 2000000 in
theorem slMaxI_ok (base : Nat) (l : List Int) (v : Value) (w : World) (ho : w.ownsRow base 3 1 v l.length (cellsI l)) (hl : 1 ≤ l.length ∧ l.length ≤ 1000000) (hp : ∀ x ∈ l, 0 ≤ x) :
    Calls Try.prog 59 #[v] w fun e w' => e = .returned (.int .i64 (maxM l)) ∧ w = w' := by
  obtain ⟨g, cap, rfl, hgb, hcp⟩ := owns_shape ho (by omega)
  have HC : Hid (∀ k (hk : k < l.length), w.cell? ⟨g, k, none⟩ = some (.int .i64 l[k])) := Lib.hid fun k hk => by
    rw [ho.cellAt k (by omega), cellsI_get _ _ hk]; simp [List.getD, hk]
  have HP := Lib.hid hp
  obtain ⟨n, hn⟩ : ∃ n, n = l.length := ⟨_, rfl⟩
  have HN := Lib.hid hn
  have c00 := HC.out 0 (by omega)
  have H1 : Hid (maxM (l.take 1) = l[0]'(by omega)) := Lib.hid (by
    have := hp (l[0]'(by omega)) (List.getElem_mem _)
    rw [List.take_succ_eq_append_getElem (show 0 < l.length by omega)]
    simp only [List.take_zero, List.nil_append, maxM]
    omega)
  generalize l[0]'(by omega) = x0 at c00 H1
  rw [← hn] at hl ⊢
  clear ho hp hn
  go_enter Try.func59, Try.ntmps59
  go_wp2
  go_loopw [3, 4] (fun mv iv wr => ∃ (k : Nat) (m : Int), mv = .int .i64 m ∧ iv = .int .i64 (k : Int) ∧ 1 ≤ k ∧ k ≤ n ∧ Hid (m = maxM (l.take k)) ∧ wr = w) (fun _ iv _ => n - (RowKit.intOf iv).toNat)
  case atStart => exact ⟨1, x0, rfl, rfl, by omega, by omega, Lib.hid H1.out.symm, rfl⟩
  case round =>
    clear c00 H1
    obtain ⟨k, m, rfl, rfl, hk1, hkn, HM, rfl⟩ := hrel
    by_cases hlk : k < n
    · have hkl : k < l.length := by rw [← HN.out]; exact hlk
      have c0 := HC.out k hkl
      have HM2 : Hid (max m l[k] = maxM (l.take (k + 1))) := Lib.hid (by
        rw [List.take_succ_eq_append_getElem hkl, maxM_snoc _ (HP.out _ (List.getElem_mem hkl)), ← HM.out])
      generalize l[k] = q at *
      obtain ⟨m2, hm2⟩ : ∃ m2, m2 = max m q := ⟨_, rfl⟩
      have hm3 := hm2.symm
      rw [hm3] at HM2
      have hwk : IntKind.i64.wrap ((k : Int) + 1) = (k : Int) + 1 := IntWalk.i64_in _ (by omega)
      have hk2 : (0 : Int) ≤ (k : Int) := by omega
      have hk3 : (k : Int) < (n : Int) := by omega
      clear hm2
      go_wp2
      go_roundw
      case rel => exact ⟨k + 1, m2, rfl, by first | rfl | go_num, by omega, by omega, HM2, by first | exact trivial | rfl⟩
      case measure => simp [RowKit.intOf]; omega
    · obtain rfl : k = n := by omega
      have HE : Hid (m = maxM l) := Lib.hid (by rw [HM.out, HN.out, List.take_length])
      obtain rfl := HE.out
      go_wp2
      go_ret
      exact ⟨rfl, rfl⟩

end Go.Proofs.Ytblidmkkbcobgaa

/- Struct results of 4 cells that are stored cell by cell into their place (as Put's of three and six); of no function of the program; no condition. -/
namespace Go.Proofs.Ytblidmkkbcobgaa
open Go.RowKit Go.Lib Go.Proofs

def put4 (W : World) (b : Nat) (v0 v1 v2 v3 : Value) : World := (((W.setCell ⟨b, 0, none⟩ v0).setCell ⟨b, 1, none⟩ v1).setCell ⟨b, 2, none⟩ v2).setCell ⟨b, 3, none⟩ v3
theorem put4_at {W : World} {b : Nat} {cs : Array Value} {T : TypeId} (h : W.heap[b]? = some (.cells cs T (0, 0))) (hs : cs.size = 4) (v0 v1 v2 v3 : Value) : (put4 W b v0 v1 v2 v3).heap[b]? = some (.cells #[v0, v1, v2, v3] T (0, 0)) := by
  obtain ⟨l⟩ := cs
  match l, hs with
  | [u0, u1, u2, u3], _ =>
    have := obj_set (obj_set (obj_set (obj_set h 0 v0) 1 v1) 2 v2) 3 v3
    simp only [List.setIfInBounds_toArray, List.set_cons_zero, List.set_cons_succ] at this
    exact this
theorem put4_below {n : Nat} {w W : World} {b : Nat} (h : Below n w W) (hb : n ≤ b) (v0 v1 v2 v3 : Value) : Below n w (put4 W b v0 v1 v2 v3) := by
  unfold put4
  exact (((h.setCell (by exact hb) _).setCell (by exact hb) _).setCell (by exact hb) _).setCell (by exact hb) _
theorem ret4 {P : Program} {fn : Func} {R : Ending → World → Prop} {fr : Act} {W : World} {b : Nat} {cs : Array Value} {T : TypeId} {v : Value} (h : W.heap[b]? = some (.cells cs T (0, 0))) (hs : cs.size = 4) (v0 v1 v2 v3 : Value)
    (hr : ∀ F : World, F.heap[b]? = some (.cells #[v0, v1, v2, v3] T (0, 0)) → (results fn fr.tmps).run P F = .ok v F) (hd : fr.defers = []) (hR : R (.returned v) (put4 W b v0 v1 v2 v3)) :
    bodyPost P fn R .ret fr (put4 W b v0 v1 v2 v3) := bodyPost_ret (hr _ (put4_at h hs v0 v1 v2 v3)) hd hR
theorem put4_grown (W : World) (b : Nat) (v0 v1 v2 v3 : Value) : W.grownBy (put4 W b v0 v1 v2 v3) (some b) := by
  unfold put4
  exact grown_step (grown_step (grown_step (setCell_grown _ _) (setCell_grown _ _)) (setCell_grown _ _)) (setCell_grown _ _)
theorem SI.put4 {w : World} {tb : Nat} {A : World} (h : SI w tb A) {b : Nat} (hb : w.heap.size ≤ b) (v0 v1 v2 v3 : Value) : SI w tb (Proofs.Ytblidmkkbcobgaa.put4 A b v0 v1 v2 v3) := by
  unfold Proofs.Ytblidmkkbcobgaa.put4
  exact (((h.set hb _ _).set hb _ _).set hb _ _).set hb _ _

end Go.Proofs.Ytblidmkkbcobgaa
