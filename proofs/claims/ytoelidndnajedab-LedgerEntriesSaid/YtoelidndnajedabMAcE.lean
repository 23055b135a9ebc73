/- Contracts of the account's own functions on rows of sub-accounts: place, known, bears. -/
import Derived.Test.YtoelidndnajedabMG6
import Derived.Test.YtoelidndnajedabMAcR
import Derived.Shelf.Abstract
set_option linter.unusedSimpArgs false
set_option linter.unusedVariables false
set_option linter.unusedSimpArgs false
set_option linter.unusedVariables false
namespace Go.Proofs.Ytoelidndnajedab
open Go.RowKit Go.Lib Go.Proofs

theorem retbl {a b : Bool} (h : a = b) : Ending.returned (.bool a) = .returned (.bool b) := by rw [h]

theorem acplaceC_any (b : Nat) (id : Int) (x : SubA) (W : World) (hb : W.cell? ⟨b, 0, none⟩ = some (.int .i64 id)) :
    Calls Try.prog 98 (#[.agg (subC x).toArray] ++ #[.pointer (some ⟨b, 0, none⟩)]) W fun e W' => e = .returned (.bool (decide (x.id = id))) ∧ Below W.heap.size W W' := by
  obtain ⟨x0, x1⟩ := x
  simp only [subC]
  have hbl : b < W.heap.size := by
    rcases Nat.lt_or_ge b W.heap.size with h | h
    · exact h
    · simp [World.cell?, Array.getElem?_eq_none h] at hb
  by_cases he : x0 = id
  · have h1 : (x0 == id) = true := by rw [beq_iff_eq]; exact he
    rw [show decide (x0 = id) = true from decide_eq_true he]
    clear he
    go_enter Try.func98, Try.ntmps98
    go_wp2
    go_ret
    exact ⟨rfl, below_alloc W _⟩
  · have h1 : (x0 == id) = false := by rw [beq_eq_false_iff_ne]; exact he
    rw [show decide (x0 = id) = false from decide_eq_false he]
    clear he
    go_enter Try.func98, Try.ntmps98
    go_wp2
    go_ret
    exact ⟨rfl, below_alloc W _⟩

theorem index_at {l : List SubA} {id i : Int} (h : (i = -1 ∧ ∀ x ∈ l, decide (x.id = id) = false) ∨ ∃ k : Nat, i = k ∧ ∃ h : k < l.length, decide (l[k].id = id) = true ∧ ∀ x ∈ l.take k, decide (x.id = id) = false) : i = atI l id := by
  rcases h with ⟨rfl, h⟩ | ⟨k, rfl, hk, h1, h2⟩
  · refine (atI_none fun j hj => ?_).symm
    have := h _ (List.getElem_mem hj)
    rw [subAt_get hj]
    exact of_decide_eq_false this
  · refine (atI_some hk (fun j hj => ?_) (by rw [subAt_get hk]; exact of_decide_eq_true h1)).symm
    have hj' : j < l.length := by omega
    have := h2 (l[j]) (by rw [List.mem_take_iff_getElem]; exact ⟨j, by omega, rfl⟩)
    rw [subAt_get hj']
    exact of_decide_eq_false this

set_option maxHeartbeats 1000000 in
theorem acplace_any (v : Value) (l : List SubA) (id : Int) (w : World) (h : SubsAt w v l) (hlen : l.length ≤ 1000000) :
    Calls Try.prog 95 #[v, .int .i64 id] w fun e w' => e = .returned (.int .i64 (atI l id)) ∧ Below w.heap.size w w' := by
  have eg := enters_of Try.func98 (by kernel_rfl) rfl
  have H := Lib.hid (subIndex_any 98 #[.pointer (some ⟨w.heap.size, 0, none⟩)] eg (fun x => decide (x.id = id)) l v (w.alloc (.cells #[.int .i64 id] 3)) (subs_list.1 (h.below (below_alloc w _))) hlen (fun x _ W hW => acplaceC_any _ id x W (by
    rw [hW.cell (p := ⟨w.heap.size, 0, none⟩) (by simp)]
    exact obj_cell (heap_alloc_new w _) 0)))
  clear h
  go_enter Try.func95, Try.ntmps95
  go_wp2_with fail
  refine (H.out).mono ?_
  rintro e w1 ⟨i, rfl, hi, hb⟩
  have HI := Lib.hid (index_at hi)
  have HB := Lib.hid ((below_alloc w _).trans (hb.mono (by simp)))
  clear hi hb
  go_wp2
  go_ret
  exact ⟨ret_int HI.out, HB.out⟩

def knownM (l : List SubA) (id : Int) : Bool := decide (id = 0) || decide (0 ≤ atI l id)
theorem atI_nonneg (l : List SubA) (id : Int) : 0 ≤ atI l id ↔ (atS l id).isSome = true := by
  unfold atI
  cases atS l id with
  | none => simp
  | some i => simp

set_option maxHeartbeats 1000000 in
theorem acknown_any (v : Value) (l : List SubA) (id : Int) (w : World) (h : SubsAt w v l) (hlen : l.length ≤ 1000000) :
    Calls Try.prog 86 #[v, .int .i64 id] w fun e w' => e = .returned (.bool (knownM l id)) ∧ Below w.heap.size w w' := by
  have H := Lib.hid (acplace_any v l id w h hlen)
  unfold knownM
  obtain ⟨i, hi⟩ : ∃ i, i = atI l id := ⟨_, rfl⟩
  rw [← hi] at H ⊢
  clear hi h
  by_cases h0 : id = 0
  · rw [show decide (id = 0) = true from decide_eq_true h0, Bool.true_or]
    have h1 : (id == 0) = true := by rw [beq_iff_eq]; exact h0
    clear h0
    go_enter Try.func86, Try.ntmps86
    go_wp2
    go_ret
    exact ⟨rfl, Below.refl _ _⟩
  · rw [show decide (id = 0) = false from decide_eq_false h0, Bool.false_or]
    have h1 : (id == 0) = false := by rw [beq_eq_false_iff_ne]; exact h0
    clear h0
    by_cases hp : 0 ≤ i
    · rw [show decide (0 ≤ i) = true from decide_eq_true hp]
      go_enter Try.func86, Try.ntmps86
      go_wp2_with fail
      refine (H.out).mono ?_
      rintro e w1 ⟨rfl, hb⟩
      go_wp2
      go_ret
      exact ⟨rfl, hb⟩
    · rw [show decide (0 ≤ i) = false from decide_eq_false hp]
      go_enter Try.func86, Try.ntmps86
      go_wp2_with fail
      refine (H.out).mono ?_
      rintro e w1 ⟨rfl, hb⟩
      go_wp2
      go_ret
      exact ⟨retbl (decide_eq_false (by omega)), hb⟩

set_option maxHeartbeats 2000000 in
theorem acbears_any (v : Value) (l : List SubA) (cr id d : Int) (w : World) (h : SubsAt w v l) (hlen : l.length ≤ 1000000) (hcr : 0 ≤ cr) (hcr1 : cr ≤ 1000000000000) (hd : -1000000000000 ≤ d) (hd1 : d ≤ 1000000000000) (hs : id = 0 ∨ (atS l id).isSome = true) (hbal : ∀ s ∈ l, -1000000000000 ≤ s.bal ∧ s.bal ≤ 1000000000000000) :
    Calls Try.prog 87 #[v, .int .i64 cr, .int .i64 id, .int .i64 d] w fun e w' => e = .returned (.bool (bearsM cr l id d)) ∧ Below w.heap.size w w' := by
  by_cases h0 : id = 0
  · have h1 : (id == 0) = true := by rw [beq_iff_eq]; exact h0
    rw [show bearsM cr l id d = true by unfold bearsM; rw [if_pos h0]]
    clear h0 hs h
    go_enter Try.func87, Try.ntmps87
    go_wp2
    go_ret
    exact ⟨rfl, Below.refl _ _⟩
  · have h1 : (id == 0) = false := by rw [beq_eq_false_iff_ne]; exact h0
    obtain ⟨i, hi⟩ := Option.isSome_iff_exists.1 (hs.resolve_left h0)
    have hat := atS_some hi
    have H : Hid (∀ W, Below w.heap.size w W → Calls Try.prog 95 #[v, .int .i64 id] W fun e w' => e = .returned (.int .i64 (i : Int)) ∧ Below W.heap.size W w') := Lib.hid fun W hW => by
      have := acplace_any v l id W (h.below hW) hlen
      rwa [show atI l id = (i : Int) by unfold atI; rw [hi]] at this
    have hbb := hbal _ (List.getElem_mem hat.1)
    rw [← subAt_get hat.1] at hbb
    obtain ⟨z, hz⟩ : ∃ z, z = (subAt l i).bal := ⟨_, rfl⟩
    obtain ⟨q, hq⟩ : ∃ q, q = bearsM cr l id d := ⟨_, rfl⟩
    have hqv : q = inB (z + d) (leastM cr id) 1000000000000000 := by rw [hq, hz]; unfold bearsM; rw [if_neg h0, hi]
    rcases h.open with ⟨rfl, -⟩ | ⟨hpos, b, o, cap, rfl, hcap, hb, hc⟩
    · have := hat.1; simp at this
    have HC := Lib.hid (fun W (hW : Below w.heap.size w W) => (hW.cell (p := ⟨b, o + i * 2 + 1, none⟩) hb).trans (hc i hat.1).2)
    have hil := hat.1
    rw [← hq]
    rw [← hz] at hbb HC
    have HQ := Lib.hid hqv
    generalize l.length = n at *
    have hi0 : (0 : Int) ≤ (i : Int) := by omega
    have hi1 : (i : Int) < (n : Int) := by omega
    clear hqv hq hc h hat hi hbal hs h0 hz hpos
    by_cases hm : id = 1
    · have h2 : (id == 1) = true := by rw [beq_iff_eq]; exact hm
      have hle : leastM cr id = -cr := if_pos hm
      rw [hle] at HQ
      clear hm hle
      by_cases hA : -cr ≤ z + d
      · by_cases hB : z + d ≤ 1000000000000000
        · obtain rfl : q = true := HQ.out.trans (inB_true.2 ⟨hA, hB⟩)
          go_enter Try.func87, Try.ntmps87
          go_wp2_with fail
          refine (H.out _ (Below.refl _ _)).mono ?_
          rintro e w1 ⟨rfl, hb1⟩
          have c1 := HC.out _ hb1
          go_wp2
          go_ret
          exact ⟨rfl, hb1⟩
        · obtain rfl : q = false := HQ.out.trans (inB_false.2 fun h => hB h.2)
          go_enter Try.func87, Try.ntmps87
          go_wp2_with fail
          refine (H.out _ (Below.refl _ _)).mono ?_
          rintro e w1 ⟨rfl, hb1⟩
          have c1 := HC.out _ hb1
          go_wp2
          go_ret
          exact ⟨retbl (decide_eq_false (by omega)), hb1⟩
      · obtain rfl : q = false := HQ.out.trans (inB_false.2 fun h => hA h.1)
        go_enter Try.func87, Try.ntmps87
        go_wp2_with fail
        refine (H.out _ (Below.refl _ _)).mono ?_
        rintro e w1 ⟨rfl, hb1⟩
        have c1 := HC.out _ hb1
        go_wp2
        go_ret
        exact ⟨rfl, hb1⟩
    · have h2 : (id == 1) = false := by rw [beq_eq_false_iff_ne]; exact hm
      have hle : leastM cr id = 0 := if_neg hm
      rw [hle] at HQ
      clear hm hle
      by_cases hA : 0 ≤ z + d
      · by_cases hB : z + d ≤ 1000000000000000
        · obtain rfl : q = true := HQ.out.trans (inB_true.2 ⟨hA, hB⟩)
          go_enter Try.func87, Try.ntmps87
          go_wp2_with fail
          refine (H.out _ (Below.refl _ _)).mono ?_
          rintro e w1 ⟨rfl, hb1⟩
          have c1 := HC.out _ hb1
          go_wp2
          go_ret
          exact ⟨rfl, hb1⟩
        · obtain rfl : q = false := HQ.out.trans (inB_false.2 fun h => hB h.2)
          go_enter Try.func87, Try.ntmps87
          go_wp2_with fail
          refine (H.out _ (Below.refl _ _)).mono ?_
          rintro e w1 ⟨rfl, hb1⟩
          have c1 := HC.out _ hb1
          go_wp2
          go_ret
          exact ⟨retbl (decide_eq_false (by omega)), hb1⟩
      · obtain rfl : q = false := HQ.out.trans (inB_false.2 fun h => hA h.1)
        go_enter Try.func87, Try.ntmps87
        go_wp2_with fail
        refine (H.out _ (Below.refl _ _)).mono ?_
        rintro e w1 ⟨rfl, hb1⟩
        have c1 := HC.out _ hb1
        go_wp2
        go_ret
        exact ⟨rfl, hb1⟩

end Go.Proofs.Ytoelidndnajedab
