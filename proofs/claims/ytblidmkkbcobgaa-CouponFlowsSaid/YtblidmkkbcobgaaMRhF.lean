/- Package register's functions on holdings and moves: isHolder, rightEnds, sumOf with any test, has, outstanding. -/
import Derived.Test.YtblidmkkbcobgaaMG1
import Derived.Test.YtblidmkkbcobgaaMSfun
import Derived.IntWalk
import Derived.Shelf.Abstract
set_option linter.unusedSimpArgs false
set_option linter.unusedVariables false
set_option linter.unusedSimpArgs false
set_option linter.unusedVariables false
namespace Go.Proofs.Ytblidmkkbcobgaa
open Go.RowKit Go.Lib Go.Proofs

theorem rxisHolder_any (n : Int) (w : World) : Calls Try.prog 146 #[.int .i64 n] w fun e w' => e = .returned (.bool (inB n 1 1000)) ∧ w = w' := by
  have H := Lib.hid (fun W => rgwithin_any n 1 1000 W)
  go_enter Try.func146, Try.ntmps146
  go_wp2_with (go_at_call 113; refine (H.out _).mono ?_; rintro e w' ⟨rfl, rfl⟩)
  go_ret
  exact ⟨rfl, rfl⟩

theorem endsB_eq (m : Mv) : endsB m = (if m.kind = 1 then decide (m.frm = 0) && inB m.to 1 1000 else if m.kind = 2 then inB m.frm 1 1000 && inB m.to 1 1000 && decide (m.frm ≠ m.to) else if m.kind = 3 then inB m.frm 1 1000 && decide (m.to = 0) else false) := by
  unfold endsB inB
  repeat' split
  all_goals first | rfl | (rw [Bool.eq_iff_iff]; simp; try omega)

set_option maxHeartbeats 4000000 in
theorem rxends_any (m : Mv) (w : World) : Calls Try.prog 137 #[.agg (mvC m).toArray] w fun e w' => e = .returned (.bool (endsB m)) ∧ Below w.heap.size w w' := by
  rw [endsB_eq]
  obtain ⟨nu, da, ki, se, fr, tt, am⟩ := m
  simp only [mvC]
  obtain ⟨p, hp⟩ : ∃ p, p = inB fr 1 1000 := ⟨_, rfl⟩
  obtain ⟨q, hq⟩ : ∃ q, q = inB tt 1 1000 := ⟨_, rfl⟩
  have HF := Lib.hid (fun W => rxisHolder_any fr W)
  have HT := Lib.hid (fun W => rxisHolder_any tt W)
  rw [← hp] at HF ⊢
  rw [← hq] at HT ⊢
  have HB := Lib.hid (below_alloc w (.cells #[.int .i64 nu, .int .i64 da, .int .i64 ki, .int .i64 se, .int .i64 fr, .int .i64 tt, .int .i64 am] 104))
  clear hp hq
  by_cases k1 : ki = 1
  · subst k1
    rw [if_pos rfl]
    by_cases h0 : fr = 0
    · subst h0
      rw [decide_eq_true rfl, Bool.true_and]
      go_enter Try.func137, Try.ntmps137
      go_wp2_with (go_at_call 146; refine (HT.out _).mono ?_; rintro e w' ⟨rfl, rfl⟩)
      go_ret
      exact ⟨rfl, HB.out⟩
    · rw [decide_eq_false h0, Bool.false_and]
      go_enter Try.func137, Try.ntmps137
      go_wp2
      go_ret
      exact ⟨rfl, HB.out⟩
  · rw [if_neg k1]
    by_cases k2 : ki = 2
    · subst k2
      rw [if_pos rfl]
      cases p with
      | false =>
        rw [Bool.false_and, Bool.false_and]
        go_enter Try.func137, Try.ntmps137
        go_wp2_with (go_at_call 146; with_reducible refine Calls.mono (HF.out _) ?_; rintro e w' ⟨rfl, rfl⟩)
        go_ret
        exact ⟨rfl, HB.out⟩
      | true =>
        cases q with
        | false =>
          rw [Bool.and_false, Bool.false_and]
          go_enter Try.func137, Try.ntmps137
          go_wp2_with (go_at_call 146; (first | with_reducible refine Calls.mono (HF.out _) ?_ | with_reducible refine Calls.mono (HT.out _) ?_); rintro e w' ⟨rfl, rfl⟩)
          go_ret
          exact ⟨rfl, HB.out⟩
        | true =>
          by_cases hft : fr = tt
          · subst hft
            rw [decide_eq_false (by simp), Bool.and_false]
            go_enter Try.func137, Try.ntmps137
            go_wp2_with (go_at_call 146; (first | with_reducible refine Calls.mono (HF.out _) ?_ | with_reducible refine Calls.mono (HT.out _) ?_); rintro e w' ⟨rfl, rfl⟩)
            go_ret
            exact ⟨rfl, HB.out⟩
          · rw [decide_eq_true hft, Bool.and_true]
            have hbe : (fr != tt) = true := by simpa using hft
            go_enter Try.func137, Try.ntmps137
            go_wp2_with (go_at_call 146; (first | with_reducible refine Calls.mono (HF.out _) ?_ | with_reducible refine Calls.mono (HT.out _) ?_); rintro e w' ⟨rfl, rfl⟩)
            go_ret
            exact ⟨rfl, HB.out⟩
    · rw [if_neg k2]
      by_cases k3 : ki = 3
      · subst k3
        rw [if_pos rfl]
        cases p with
        | false =>
          rw [Bool.false_and]
          go_enter Try.func137, Try.ntmps137
          go_wp2_with (go_at_call 146; with_reducible refine Calls.mono (HF.out _) ?_; rintro e w' ⟨rfl, rfl⟩)
          go_ret
          exact ⟨rfl, HB.out⟩
        | true =>
          rw [Bool.true_and]
          by_cases h0 : tt = 0
          · subst h0
            rw [decide_eq_true rfl]
            go_enter Try.func137, Try.ntmps137
            go_wp2_with (go_at_call 146; with_reducible refine Calls.mono (HF.out _) ?_; rintro e w' ⟨rfl, rfl⟩)
            go_ret
            exact ⟨rfl, HB.out⟩
          · rw [decide_eq_false h0]
            have hbe : (tt == 0) = false := beq_eq_false_iff_ne.2 h0
            go_enter Try.func137, Try.ntmps137
            go_wp2_with (go_at_call 146; with_reducible refine Calls.mono (HF.out _) ?_; rintro e w' ⟨rfl, rfl⟩)
            go_ret
            exact ⟨rfl, HB.out⟩
      · rw [if_neg k3]
        go_enter Try.func137, Try.ntmps137
        go_wp2
        go_ret
        exact ⟨rfl, HB.out⟩

/-! ### Sums -/
theorem rxhasC_any (b : Nat) (m : Mv) (h : Hld) (W : World) (hb : W.heap[b]? = some (.cells (mvC m).toArray 104 (0, 0))) :
    Calls Try.prog 147 (#[.agg (hldC h).toArray] ++ #[.pointer (some ⟨b, 0, none⟩)]) W fun e W' => e = .returned (.bool (isAt m.sec m.frm h)) ∧ Below W.heap.size W W' := by
  have c3 := obj_cell hb 3
  have c4 := obj_cell hb 4
  have hlt := obj_lt hb
  obtain ⟨nu, da, ki, se, fr, tt, am⟩ := m
  obtain ⟨hs, hw, ha⟩ := h
  simp [mvC] at c3 c4
  simp only [hldC, isAt]
  clear hb
  by_cases h1 : hs = se
  · subst h1
    by_cases h2 : hw = fr
    · subst h2
      rw [beq_self_eq_true, beq_self_eq_true, Bool.true_and]
      go_enter Try.func147, Try.ntmps147
      go_wp2
      go_ret
      exact ⟨rfl, below_alloc W _⟩
    · have hbe : (hw == fr) = false := beq_eq_false_iff_ne.2 h2
      rw [beq_self_eq_true, beq_eq_false_iff_ne.2 h2, Bool.and_false]
      go_enter Try.func147, Try.ntmps147
      go_wp2
      go_ret
      exact ⟨rfl, below_alloc W _⟩
  · rw [beq_eq_false_iff_ne.2 h1, Bool.false_and]
    go_enter Try.func147, Try.ntmps147
    go_wp2
    go_ret
    exact ⟨rfl, below_alloc W _⟩
theorem rxoutC_any (b : Nat) (id : Int) (h : Hld) (W : World) (hb : W.heap[b]? = some (.cells #[.int .i64 id] 3 (0, 0))) :
    Calls Try.prog 148 (#[.agg (hldC h).toArray] ++ #[.pointer (some ⟨b, 0, none⟩)]) W fun e W' => e = .returned (.bool (isOf id h)) ∧ Below W.heap.size W W' := by
  have c0 := obj_cell hb 0
  have hlt := obj_lt hb
  obtain ⟨hs, hw, ha⟩ := h
  simp at c0
  simp only [hldC, isOf]
  clear hb
  by_cases h1 : hs = id
  · subst h1
    rw [beq_self_eq_true]
    go_enter Try.func148, Try.ntmps148
    go_wp2
    go_ret
    exact ⟨rfl, below_alloc W _⟩
  · have hbe : (hs == id) = false := beq_eq_false_iff_ne.2 h1
    rw [beq_eq_false_iff_ne.2 h1]
    go_enter Try.func148, Try.ntmps148
    go_wp2
    go_ret
    exact ⟨rfl, below_alloc W _⟩

def sumB (p : Hld → Bool) (l : List Hld) : Prop := ∀ k, -9000000000000000000 ≤ sumH p (l.take k) ∧ sumH p (l.take k) ≤ 9000000000000000000
theorem sumH_snoc (p : Hld → Bool) (l : List Hld) (h : Hld) : sumH p (l ++ [h]) = sumH p l + (if p h then h.amt else 0) := by rw [sumH_app]; simp [sumH]
theorem sumB_ok {p : Hld → Bool} {l : List Hld} (h : ∀ x ∈ l, HldOk x) (hl : l.length ≤ 1000000) : sumB p l := fun k => by
  have h1 := sumH_bound (p := p) (l := l.take k) fun x hx => h x (List.mem_of_mem_take hx)
  have h2 : (l.take k).length ≤ l.length := by rw [List.length_take]; omega
  omega

set_option maxHeartbeats 4000000 in
theorem rxsumOf_any (f : Nat) (lb : Array Value) (eg : ∀ args w, (callFunc f args).run Try.prog w = .ok (.enter f args) w) (p : Hld → Bool) (l : List Hld) (v : Value) (w : World) (hl : ListAt hldC 3 w v l) (hlen : l.length ≤ 1000000) (hb : sumB p l)
    (hp : ∀ h W, Below w.heap.size w W → Calls Try.prog f (#[.agg (hldC h).toArray] ++ lb) W fun e W' => e = .returned (.bool (p h)) ∧ Below W.heap.size W W') :
    Calls Try.prog 127 #[v, .func (.func f) #[] lb] w fun e w' => e = .returned (.int .i64 (sumH p l)) ∧ Below w.heap.size w w' := by
  have HP := Lib.hid hp
  obtain ⟨ao, cap, rfl, hcap, hcs⟩ := hl.shape hldF
  have HCS := Lib.hid hcs
  have HSB := Lib.hid hb
  obtain ⟨n, hn⟩ : ∃ n, n = l.length := ⟨_, rfl⟩
  have HN := Lib.hid hn
  rw [← hn] at hcap hlen ⊢
  obtain ⟨res, hres⟩ : ∃ res, res = sumH p l := ⟨_, rfl⟩
  have HRES := Lib.hid hres
  rw [← hres]
  clear hn hcs hl hp hb hres
  go_enter Try.func127, Try.ntmps127
  go_wp2
  go_loopw [5, 10] (fun sv iv wr => ∃ k : Nat, sv = .int .i64 (sumH p (l.take k)) ∧ iv = .int .i64 (k : Int) ∧ k ≤ n ∧ Hid (Below w.heap.size w wr)) (fun _ iv _ => n - (RowKit.intOf iv).toNat)
  case atStart => exact ⟨0, rfl, rfl, by omega, Lib.hid (Below.refl _ _)⟩
  case round =>
    obtain ⟨k, rfl, rfl, hkn, HB⟩ := hrel
    by_cases hlk : k < n
    · have hkl : k < l.length := by rw [← HN.out]; exact hlk
      obtain ⟨b, o, rfl, hb, hcc⟩ := HCS.out (by omega)
      have hcell := fun j (hj : j < 3) => (HB.out.cell (p := ⟨b, o + k * 3 + j, none⟩) hb).trans (hcc k hkl j hj)
      have htk : sumH p (l.take (k + 1)) = sumH p (l.take k) + (if p l[k] then l[k].amt else 0) := by
        rw [← sumH_snoc, ← List.take_succ_eq_append_getElem hkl]
      have hb1 := HSB.out k
      have hb2 := HSB.out (k + 1)
      rw [htk] at hb2
      have HTK := Lib.hid htk
      clear htk
      obtain ⟨s0, hs0⟩ : ∃ s0, s0 = sumH p (l.take k) := ⟨_, rfl⟩
      rw [← hs0] at hb1 hb2 HTK ⊢
      generalize l[k] = x at *
      obtain ⟨xa, xb, xc⟩ := x
      simp only at hb2
      have HPD := Lib.hid (fun W hW => HP.out ⟨xa, xb, xc⟩ W hW)
      simp only [hldC] at HPD
      obtain ⟨c, hc⟩ : ∃ c, c = p ⟨xa, xb, xc⟩ := ⟨_, rfl⟩
      rw [← hc] at HPD hb2 HTK
      clear hcc hs0 hc
      have c0 := hcell 0 (by omega)
      have c1 := hcell 1 (by omega)
      have c2 := hcell 2 (by omega)
      simp [hldC] at c0 c1 c2
      have hk0 : (0 : Int) ≤ (k : Int) := by omega
      have hk1 : (k : Int) < (n : Int) := by omega
      have HXP := Lib.hid (heap_alloc_new wr (.cells #[.int .i64 xa, .int .i64 xb, .int .i64 xc] 53))
      have HBP := Lib.hid (HB.out.alloc HB.out.size (.cells #[.int .i64 xa, .int .i64 xb, .int .i64 xc] 53))
      clear hcell
      go_wp2_with fail
      refine (HPD.out _ HBP.out).mono ?_
      rintro e w3 ⟨rfl, hb3⟩
      have HB3 := Lib.hid (HBP.out.trans (hb3.mono HBP.out.size))
      have HX3 := Lib.hid (obj_below HXP.out hb3)
      have e2 := obj_cell HX3.out 2
      simp at e2
      clear c0 c1 c2 HXP HBP hb3
      cases c with
      | false =>
        go_wp2
        go_roundw
        case rel => exact ⟨k + 1, by rw [HTK.out]; simp, by first | rfl | go_num, by omega, HB3⟩
        case measure => simp [RowKit.intOf]; omega
      | true =>
        simp only [if_true] at hb2
        have hw : IntKind.i64.wrap (s0 + xc) = s0 + xc := IntWalk.i64_in _ (by omega)
        go_wp2
        go_roundw
        case rel => exact ⟨k + 1, by rw [HTK.out]; simp, by first | rfl | go_num, by omega, HB3⟩
        case measure => simp [RowKit.intOf]; omega
    · obtain rfl : k = n := by omega
      have hR : sumH p (l.take k) = res := by rw [HRES.out, HN.out, List.take_length]
      rw [hR]
      go_wp2
      go_ret
      exact ⟨rfl, HB.out⟩

theorem rxhas_any (l : List Hld) (m : Mv) (v : Value) (w : World) (hl : ListAt hldC 3 w v l) (hlen : l.length ≤ 1000000) (hb : sumB (isAt m.sec m.frm) l) :
    Calls Try.prog 138 #[v, .agg (mvC m).toArray] w fun e w' => e = .returned (.int .i64 (heldM l m.sec m.frm)) ∧ Below w.heap.size w w' := by
  have eg := enters_of Try.func147 (by kernel_rfl) rfl
  have A1 := heap_alloc_new w (.cells (mvC m).toArray 104)
  have hB := below_alloc w (.cells (mvC m).toArray 104)
  have H := Lib.hid (rxsumOf_any 147 #[.pointer (some ⟨w.heap.size, 0, none⟩)] eg (isAt m.sec m.frm) l v (w.alloc (.cells (mvC m).toArray 104)) (hl.below hB) hlen hb fun h W hW => rxhasC_any w.heap.size m h W (obj_below A1 hW))
  have HB := Lib.hid hB
  clear hl hlen hb A1 hB eg
  obtain ⟨nu, da, ki, se, fr, tt, am⟩ := m
  simp only [mvC] at H HB ⊢
  go_enter Try.func138, Try.ntmps138
  go_wp2_with (go_at_call 127; refine H.out.mono ?_; rintro e w' ⟨rfl, b7⟩; have HJ := Lib.hid (HB.out.trans (b7.mono HB.out.size)); clear b7)
  go_ret
  exact ⟨rfl, HJ.out⟩
theorem rxoutstanding_any (l : List Hld) (id : Int) (v : Value) (w : World) (hl : ListAt hldC 3 w v l) (hlen : l.length ≤ 1000000) (hb : sumB (isOf id) l) :
    Calls Try.prog 139 #[v, .int .i64 id] w fun e w' => e = .returned (.int .i64 (outM l id)) ∧ Below w.heap.size w w' := by
  have eg := enters_of Try.func148 (by kernel_rfl) rfl
  have A1 := heap_alloc_new w (.cells #[.int .i64 id] 3)
  have hB := below_alloc w (.cells #[.int .i64 id] 3)
  have H := Lib.hid (rxsumOf_any 148 #[.pointer (some ⟨w.heap.size, 0, none⟩)] eg (isOf id) l v (w.alloc (.cells #[.int .i64 id] 3)) (hl.below hB) hlen hb fun h W hW => rxoutC_any w.heap.size id h W (obj_below A1 hW))
  have HB := Lib.hid hB
  clear hl hlen hb A1 hB eg
  go_enter Try.func139, Try.ntmps139
  go_wp2_with (go_at_call 127; refine H.out.mono ?_; rintro e w' ⟨rfl, b7⟩; have HJ := Lib.hid (HB.out.trans (b7.mono HB.out.size)); clear b7)
  go_ret
  exact ⟨rfl, HJ.out⟩

end Go.Proofs.Ytblidmkkbcobgaa
