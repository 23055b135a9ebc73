/- The contract of treasurymake.Ints: whether two lists of numbers are the same; each a slice whose cells hold them. -/
import Derived.Test.YtbndcjbnpgdpjaaDivide
namespace Go.Proofs.Ytbndcjbnpgdpjaa
open Go.RowKit Go.Sort Go.Shelf Go.Lib Go.Proofs

/-- The slice v holds the numbers l in the world w. -/
def RowAt (w : World) (v : Value) (l : List Int) : Prop :=
  (l = [] ∧ ∃ ao cap, v = .slice ao 0 cap) ∨ ∃ b o cap, v = .slice (some ⟨b, o, none⟩) l.length cap ∧ b < w.heap.size ∧ ∀ i, i < l.length → w.cell? ⟨b, o + i, none⟩ = some (.int .i64 (l.getD i 0))

theorem RowAt.below {w w' : World} {v : Value} {l : List Int} (h : RowAt w v l) (hb : Below w.heap.size w w') : RowAt w' v l := by
  rcases h with h | ⟨b, o, cap, hv, hlt, hc⟩
  · exact Or.inl h
  · exact Or.inr ⟨b, o, cap, hv, Nat.lt_of_lt_of_le hlt hb.size, fun i hi => by rw [hb.cell (by exact hlt)]; exact hc i hi⟩

/-- An owned row of numbers is a slice that holds them. -/
theorem RowAt.owns {w : World} {base : Nat} {e : TypeId} {v : Value} {n : Nat} {l : List Int} (h : w.ownsRow base e 1 v n (cellsI l)) : RowAt w v l := by
  have hl : l.length = n := by have := h.1; simpa [cellsI] using this
  rcases h.2 with ⟨hv, h0⟩ | ⟨g, cap, cur, hv, hg, hh, r⟩
  · exact Or.inl ⟨List.length_eq_zero_iff.1 (by omega), none, 0, by rw [hv]⟩
  · refine Or.inr ⟨g, 0, cap, by rw [hv, hl], ?_, fun i hi => ?_⟩
    · by_cases hlt : g < w.heap.size
      · exact hlt
      · rw [Array.getElem?_eq_none (by omega)] at hh; cases hh
    · subst hv
      rw [Nat.zero_add, h.cellAt i (by omega), cellsI_get l i hi]

theorem getD_eq {l : List Int} {i : Nat} (h : i < l.length) : l.getD i 0 = l[i] := by simp [List.getD, List.getElem?_eq_getElem h]

theorem list_eq_of {a b : List Int} (hl : a.length = b.length) (h : ∀ i, i < a.length → a.getD i 0 = b.getD i 0) : a = b := by
  apply List.ext_getElem hl
  intro i h1 h2
  have := h i h1
  rwa [getD_eq h1, getD_eq h2] at this

set_option maxHeartbeats 1000000 in
theorem Ints_any (va vb : Value) (la lb : List Int) (w : World) (ha : RowAt w va la) (hb : RowAt w vb lb) (hs : la.length ≤ 4611686018427387904) (hs' : lb.length ≤ 4611686018427387904) :
    Calls Try.prog 25 #[va, vb] w fun e w' => e = .returned (.bool (decide (la = lb))) ∧ ∃ q, w' = w.drewN q := by
  rcases ha with ⟨rfl, ao, ca, rfl⟩ | ⟨ba, oa, ca, rfl, hba, hca⟩
  · rcases hb with ⟨rfl, bo, cb, rfl⟩ | ⟨bb, ob, cb, rfl, hbb, hcb⟩
    · go_enter Try.func25, Try.ntmps25
      go_wp2
      refine wp_loop_rounds 1 ?_
      rw [rounds_succ]
      go_wp2
      go_ret
      exact ⟨rfl, 0, rfl⟩
    · cases lb with
      | nil =>
        go_enter Try.func25, Try.ntmps25
        go_wp2
        refine wp_loop_rounds 1 ?_
        rw [rounds_succ]
        go_wp2
        go_ret
        exact ⟨rfl, 0, rfl⟩
      | cons x l =>
        obtain ⟨n, hn⟩ : ∃ n, n = (x :: l).length := ⟨_, rfl⟩
        have hn0 : 0 < n := by rw [hn]; simp
        have hne : ((0 : Int) != (n : Int)) = true := by rw [bne_iff_ne]; omega
        have hd : decide (([] : List Int) = x :: l) = false := rfl
        rw [hd, ← hn]
        clear hd hcb hn hs hs'
        go_enter Try.func25, Try.ntmps25
        go_wp2
        go_ret
        exact ⟨rfl, 0, rfl⟩
  · rcases hb with ⟨rfl, bo, cb, rfl⟩ | ⟨bb, ob, cb, rfl, hbb, hcb⟩
    · cases la with
      | nil =>
        go_enter Try.func25, Try.ntmps25
        go_wp2
        refine wp_loop_rounds 1 ?_
        rw [rounds_succ]
        go_wp2
        go_ret
        exact ⟨rfl, 0, rfl⟩
      | cons x l =>
        obtain ⟨n, hn⟩ : ∃ n, n = (x :: l).length := ⟨_, rfl⟩
        have hn0 : 0 < n := by rw [hn]; simp
        have hne : ((n : Int) != (0 : Int)) = true := by rw [bne_iff_ne]; omega
        have hd : decide (x :: l = ([] : List Int)) = false := rfl
        rw [hd, ← hn]
        clear hd hca hn hs hs'
        go_enter Try.func25, Try.ntmps25
        go_wp2
        go_ret
        exact ⟨rfl, 0, rfl⟩
    · by_cases hl : la.length = lb.length
      · obtain ⟨n, hn⟩ : ∃ n, n = la.length := ⟨_, rfl⟩
        have hnb : n = lb.length := by omega
        have hn1 : n ≤ 4611686018427387904 := by omega
        have HCA := Lib.hid hca
        have HCB := Lib.hid hcb
        have HN := Lib.hid hn
        have HNB := Lib.hid hnb
        obtain ⟨r, hr⟩ : ∃ r, r = decide (la = lb) := ⟨_, rfl⟩
        have HR := Lib.hid hr
        rw [← hn, ← hnb, ← hr]
        have hne : ((n : Int) != (n : Int)) = false := by rw [bne_self_eq_false]
        clear hca hcb hn hnb hs hs' hl hr
        go_enter Try.func25, Try.ntmps25
        go_wp2
        go_loopw [13] (fun c wr => ∃ k q : Nat, k ≤ n ∧ c = .int .i64 k ∧ Hid (∀ i, i < k → la.getD i 0 = lb.getD i 0) ∧ wr = w.drewN q) (fun c _ => n - (intOf c).toNat)
        case atStart => exact ⟨0, 0, Nat.zero_le _, rfl, Lib.hid (fun i h => by omega), rfl⟩
        case round =>
          obtain ⟨k, q, hk, rfl, HE, rfl⟩ := hrel
          by_cases hlt : k < n
          · obtain ⟨x, hx⟩ : ∃ x, x = la.getD k 0 := ⟨_, rfl⟩
            obtain ⟨y, hy⟩ : ∃ y, y = lb.getD k 0 := ⟨_, rfl⟩
            have hcx := HCA.out k (by have := HN.out; omega)
            have hcy := HCB.out k (by have := HNB.out; omega)
            rw [← hx] at hcx
            rw [← hy] at hcy
            have HX := Lib.hid hx
            have HY := Lib.hid hy
            have hk0 : (0 : Int) ≤ (k : Int) := by omega
            have hk1 : (k : Int) < (n : Int) := by omega
            clear hx hy
            by_cases hxy : x = y
            · have hb : (x != y) = false := by rw [hxy]; exact bne_self_eq_false _
              have HXY := Lib.hid hxy
              clear hxy
              go_wp2
              go_quiet (fail)
              go_wp2
              go_roundw
              case rel =>
                refine ⟨k + 1, _, by omega, by go_num, Lib.hid fun i hi => ?_, rfl⟩
                by_cases e : i = k
                · subst e; rw [← HX.out, ← HY.out]; exact HXY.out
                · exact HE.out i (by omega)
              case measure => simp [intOf]; omega
            · have hb : (x != y) = true := by rw [bne_iff_ne]; exact hxy
              have hrf : r = false := by
                rw [HR.out]
                exact decide_eq_false fun e => hxy (by rw [HX.out, HY.out, e])
              clear hxy
              subst hrf
              go_wp2
              go_quiet (fail)
              go_wp2
              go_ret
              exact ⟨rfl, _, by first | rfl | exact World.drewN_drewN _ _ _⟩
          · have hrt : r = true := by
              rw [HR.out]
              exact decide_eq_true (list_eq_of (by have := HN.out; have := HNB.out; omega) fun i hi => HE.out i (by have := HN.out; omega))
            subst hrt
            go_wp2
            go_ret
            exact ⟨rfl, _, rfl⟩
      · obtain ⟨n, hn⟩ : ∃ n, n = la.length := ⟨_, rfl⟩
        obtain ⟨m, hm⟩ : ∃ m, m = lb.length := ⟨_, rfl⟩
        have hd : decide (la = lb) = false := decide_eq_false fun e => hl (by rw [e])
        have hne : ((n : Int) != (m : Int)) = true := by rw [bne_iff_ne]; omega
        rw [hd, ← hn, ← hm]
        clear hd hn hm hca hcb hl hs hs'
        go_enter Try.func25, Try.ntmps25
        go_wp2
        go_ret
        exact ⟨rfl, 0, rfl⟩

end Go.Proofs.Ytbndcjbnpgdpjaa
