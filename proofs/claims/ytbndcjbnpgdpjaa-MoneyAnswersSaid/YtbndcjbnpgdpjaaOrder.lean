/- The contract of the tape's Order: it returns the numbers below n in some order, in new memory; only the tape's place has turned. -/
import Derived.Test.YtbndcjbnpgdpjaaMParts
import Derived.BigRegion
namespace Go.Proofs.Ytbndcjbnpgdpjaa
open Go.RowKit Go.Sort Go.Shelf Go.Lib Go.Proofs

/-- What Order hands back. -/
def OrderPost (tb n : Nat) (w : World) (e : Ending) (w' : World) : Prop := ∃ (v : Value) (o : List Nat), e = .returned v ∧ o.Perm (List.range n) ∧ w'.ownsRow w.heap.size 3 1 v n (natCells o) ∧ TapeAt w' tb ∧ w.grownBy w' (some tb)

theorem natCells_snoc (k : Nat) : natCells (List.range k) ++ [.int .i64 (k : Int)] = natCells (List.range (k + 1)) := by
  simp [natCells, List.range_succ]

theorem swap_perm {α : Type} (o : List α) (i k : Nat) (hi : i < o.length) (hk : k < o.length) : ((o.set i o[k]).set k o[i]).Perm o := by
  have h := Array.swap_perm (xs := o.toArray) (i := i) (j := k) (by simpa using hi) (by simpa using hk)
  have h2 := Array.perm_iff_toList_perm.1 h
  rw [Array.toList_swap] at h2
  simpa using h2

theorem natCells_swap (o : List Nat) (i k : Nat) (hi : i < o.length) (hk : k < o.length) : ((natCells o).set i (.int .i64 ((o[k] : Nat) : Int))).set k (.int .i64 ((o[i] : Nat) : Int)) = natCells ((o.set i o[k]).set k o[i]) := by
  simp [natCells, List.map_set]

theorem grownBy_trans {a b c : World} {r : Nat} (h : a.grownBy b (some r)) (k : b.grownBy c (some r)) : a.grownBy c (some r) :=
  ⟨k.os.trans h.os, k.tape.trans h.tape, k.output.trans h.output, Nat.le_trans h.size k.size, fun j hj hne => (k.block j (Nat.lt_of_lt_of_le hj h.size) hne).trans (h.block j hj hne)⟩

theorem grownBy_refl (a : World) (r : Option Nat) : a.grownBy a r := ⟨rfl, rfl, rfl, Nat.le_refl _, fun _ _ _ => rfl⟩

/-- What is written in new blocks is no matter. -/
theorem grownBy_new {a b c : World} {r : Nat} {row : Option Nat} (h : a.grownBy b (some r)) (k : b.grownBy c row) (hr : ∀ q, row = some q → a.heap.size ≤ q) : a.grownBy c (some r) :=
  ⟨k.os.trans h.os, k.tape.trans h.tape, k.output.trans h.output, Nat.le_trans h.size k.size, fun j hj hne => (k.block j (Nat.lt_of_lt_of_le hj h.size) (fun e => by have := hr j e.symm; omega)).trans (h.block j hj hne)⟩

theorem grownBy_alloc {a b : World} {r : Nat} (h : a.grownBy b (some r)) (o : Obj) : a.grownBy (b.alloc o) (some r) :=
  ⟨h.os, h.tape, h.output, Nat.le_trans h.size (by simp), fun j hj hne => (Below.heap_alloc b o j (Nat.lt_of_lt_of_le hj h.size)).trans (h.block j hj hne)⟩

theorem grownBy_drew {a b : World} {r : Option Nat} (h : a.grownBy b r) : a.grownBy b.drew r := ⟨h.os, h.tape, h.output, h.size, h.block⟩

/-- The order on the way: o, in the slice v; only the tape's place has turned. -/
structure OInv (w : World) (tb n : Nat) (o : List Nat) (v : Value) (wr : World) : Prop where
  perm : o.Perm (List.range n)
  own : wr.ownsRow w.heap.size 3 1 v n (natCells o)
  tape : TapeAt wr tb
  old : w.grownBy wr (some tb)

set_option maxHeartbeats 2000000 in
theorem Order_any (tb n : Nat) (w : World) (ht : TapeAt w tb) (hn : n ≤ 1000000) :
    Calls Try.prog 26 #[.pointer (some ⟨tb, 0, none⟩), .int .i64 (n : Int)] w (OrderPost tb n w) := by
  obtain ⟨i0, hi0, hz0, hz1, hz2⟩ := info_parts Try.infoInt
  have hlt0 := ht.lt
  go_enter Try.func26, Try.ntmps26
  go_wp2
  go_loopw [5, 6] (fun v c wr => ∃ k : Nat, k ≤ n ∧ c = .int .i64 k ∧ OInv w tb k (List.range k) v wr) (fun _ c _ => n - (intOf c).toNat)
  case atStart => exact ⟨0, Nat.zero_le _, rfl, List.Perm.refl _, World.ownsRow_nil _ _ _ _, ht, grownBy_refl _ _⟩
  case round =>
    obtain ⟨k, hk, rfl, hinv⟩ := hrel
    have hown := hinv.own
    have hsz := hinv.old.size
    by_cases hlt : k < n
    · have H := Lib.hid hinv
      clear hinv
      go_wp2_with (at_builtin; refine wpList_append_own _ rfl _ _ 22 rfl w.heap.size 3 i0 (.int .i64 0) 1 8 Try.underlying22 hi0 hz0 hz1 hz2 rfl (by decide) _ _ _ rfl (hown.alloc _) ⟨wr.heap.size, 0, none⟩ 1 1 [.int .i64 (k : Int)] rfl rfl (one_new _ _ _ _ rfl) (one_int _ _) (by unfold maxLen; omega) (by omega) (by simp; omega) ?_; intro v' w4 hown4 hgr4 _)
      go_roundw
      case rel =>
        refine ⟨k + 1, by omega, by go_num, List.Perm.refl _, by rw [natCells_snoc] at hown4; exact hown4, ?_, grownBy_new (grownBy_alloc H.out.old _) hgr4 fun q hq => ownBlock_le H.out.own q hq⟩
        exact (H.out.tape.below ((Below.refl _ _).alloc (Nat.le_refl _) _)).grown hgr4 fun r hr => by have := ownBlock_le H.out.own r hr; omega
      case measure => simp [intOf]; omega
    · obtain rfl : k = n := by omega
      have H := Lib.hid hinv
      clear hinv hown
      by_cases hk0 : k = 0
      · subst hk0
        go_wp2
        refine wp_loop_rounds 1 ?_
        rw [rounds_succ]
        go_wp2
        go_ret
        exact ⟨_, _, rfl, List.Perm.refl _, H.out.own, H.out.tape, H.out.old⟩
      · obtain ⟨g, cap, rfl, hg, hcap⟩ := owns_shape H.out.own (by omega)
        go_wp2
        go_loopw [7] (fun c wr => ∃ (i : Nat) (o : List Nat), i < k ∧ c = .int .i64 i ∧ OInv w tb k o (.slice (some ⟨g, 0, none⟩) k cap) wr) (fun c _ => (intOf c).toNat)
        case atStart => exact ⟨k - 1, List.range k, by omega, by go_num, H.out⟩
        case round =>
          clear H
          obtain ⟨i, o, hi, rfl, hinv⟩ := hrel
          by_cases hpos : 0 < i
          · have HN := Lib.hid (N_any tb ((i : Int) + 1) wr hinv.tape (by omega) (by omega))
            have H := Lib.hid hinv
            clear hinv
            go_wp2_with fail
            refine (HN.out).mono ?_
            rintro e w1 ⟨r, rfl, r0, r1, t1, g1⟩
            obtain ⟨p, rfl⟩ : ∃ p : Nat, r = p := ⟨r.toNat, by omega⟩
            have hp : p < k := by omega
            have hol : o.length = k := by rw [H.out.perm.length_eq, List.length_range]
            have ho1 := H.out.own.kept g1 (Or.inr (by simp [Value.ownBlock]; omega))
            obtain ⟨x, hx⟩ : ∃ x, x = o[i]'(by omega) := ⟨_, rfl⟩
            obtain ⟨y, hy⟩ : ∃ y, y = o[p]'(by omega) := ⟨_, rfl⟩
            have c1 : w1.cell? ⟨g, i, none⟩ = some (.int .i64 (x : Int)) := by rw [ho1.cellAt i (by omega), natCells_get o i (by omega), hx]
            have c2 : w1.cell? ⟨g, p, none⟩ = some (.int .i64 (y : Int)) := by rw [ho1.cellAt p (by omega), natCells_get o p (by omega), hy]
            have f1 : w1.frozen? ⟨g, i, none⟩ = false := ho1.frozenAt i
            have f2 : w1.frozen? ⟨g, p, none⟩ = false := ho1.frozenAt p
            obtain ⟨h1, k1⟩ := ho1.stored i (.int .i64 (y : Int))
            obtain ⟨h2, k2⟩ := h1.stored p (.int .i64 (x : Int))
            obtain ⟨u, hu⟩ : ∃ u, (w1.setCell ⟨g, i, none⟩ (.int .i64 (y : Int))).cell? ⟨g, p, none⟩ = some u := by
              rw [h1.cellAt p (by omega)]
              exact ⟨_, List.getElem?_eq_getElem (by simp [natCells]; omega)⟩
            have hfin : OInv w tb k ((o.set i y).set p x) (.slice (some ⟨g, 0, none⟩) k cap) (((w1.setCell ⟨g, i, none⟩ (.int .i64 (y : Int))).setCell ⟨g, p, none⟩ (.int .i64 (x : Int))).drew) := by
              have hge : w.heap.size ≤ g := hg
              refine ⟨by rw [hx, hy]; exact (swap_perm o i p (by omega) (by omega)).trans H.out.perm, ?_, ?_, ?_⟩
              · have e := natCells_swap o i p (by omega) (by omega)
                rw [← hx, ← hy] at e
                rw [e] at h2
                exact h2.drew
              · exact ((t1.grown k1 (by simp; omega)).grown k2 (by simp; omega)).keep fun _ _ => rfl
              · exact grownBy_drew (grownBy_new (grownBy_new (grownBy_trans H.out.old g1) k1 (by simp; omega)) k2 (by simp; omega))
            have HF := Lib.hid hfin
            have hi0 : (0 : Int) ≤ (i : Int) := by omega
            have hp0 : (0 : Int) ≤ (p : Int) := by omega
            have hi1 : (i : Int) < (k : Int) := by omega
            have hp1 : (p : Int) < (k : Int) := by omega
            clear hx hy ho1 h1 k1 h2 k2 hfin t1 g1 hol HN
            go_wp2
            go_big_region
            all_goals go_wp2
            go_roundw
            case rel => exact ⟨i - 1, _, by omega, by go_num, HF.out⟩
            case measure => simp [intOf]; omega
          · have H := Lib.hid hinv
            clear hinv
            go_wp2
            go_ret
            exact ⟨_, o, rfl, H.out.perm, H.out.own, H.out.tape, H.out.old⟩

end Go.Proofs.Ytbndcjbnpgdpjaa
