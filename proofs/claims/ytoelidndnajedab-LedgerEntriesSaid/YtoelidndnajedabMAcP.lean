/- The contract of the account's reference's plain: whether an account is right but for its balances. -/
import Derived.Test.YtoelidndnajedabMAcR
import Derived.Deep.QuietTactic
import Derived.BigQuiet
import Derived.Deep.DeepCutAuto
import Derived.Deep.CutRange
import Derived.IntWalk
set_option linter.unusedSimpArgs false
set_option linter.unusedVariables false
namespace Go.Proofs.Ytoelidndnajedab
open Go.RowKit Go.Lib Go.Proofs

def okAt (l : List SubA) (i : Nat) : Prop := (1 ≤ (subAt l i).id ∧ (subAt l i).id ≤ 1000) ∧ (i = 0 → (subAt l i).id = 1) ∧ (0 < i → (subAt l (i - 1)).id < (subAt l i).id)
theorem idsM_true {l : List SubA} : idsM l = true ↔ 1 ≤ l.length ∧ ∀ i, i < l.length → okAt l i := by
  unfold idsM okAt
  rw [decide_eq_true_eq]
  constructor
  · rintro ⟨h1, h2, h3, h4⟩
    exact ⟨h1, fun i hi => ⟨h3 i hi, fun e => by rw [e]; exact h2, h4 i hi⟩⟩
  · rintro ⟨h1, h2⟩
    exact ⟨h1, (h2 0 (by omega)).2.1 rfl, fun i hi => (h2 i hi).1, fun i hi => (h2 i hi).2.2⟩
theorem idsM_no {l : List SubA} {i : Nat} (hi : i < l.length) (h : ¬ okAt l i) : idsM l = false := by
  cases hb : idsM l with
  | false => rfl
  | true => exact absurd ((idsM_true.1 hb).2 i hi) h

set_option maxRecDepth 100000 in
set_option maxHeartbeats 4000000 in
theorem raplain_any (a : Acc) (su en : Value) (w : World) (h : SubsAt w su a.subs) (hlen : a.subs.length ≤ 1000000) :
    Calls Try.prog 57 #[.agg #[.int .i64 a.credit, su, en]] w fun e w' => e = .returned (.bool (plainM a)) ∧ Below w.heap.size w w' := by
  obtain ⟨cr, l, es⟩ := a
  simp only at h hlen ⊢
  have HV := Lib.hid (fun W => rvValid_any cr W)
  obtain ⟨p, hp⟩ : ∃ p, p = plainM ⟨cr, l, es⟩ := ⟨_, rfl⟩
  have HP : Hid (p = (amtB cr && idsM l)) := Lib.hid hp
  rw [← hp]
  clear hp
  obtain ⟨n, hn⟩ : ∃ n, n = l.length := ⟨_, rfl⟩
  have HN := Lib.hid hn
  cases hv : amtB cr with
  | false =>
    rw [hv] at HV HP
    obtain rfl : p = false := HP.out
    clear hv hn h hlen
    go_enter Try.func57, Try.ntmps57
    go_wp2_with (go_at_call 56; refine (HV.out _).mono ?_; rintro e w' ⟨rfl, rfl⟩)
    go_ret
    exact ⟨rfl, below_alloc w _⟩
  | true =>
  rw [hv, Bool.true_and] at HP
  rw [hv] at HV
  clear hv
  rcases h.open with ⟨rfl, ao, cap, rfl⟩ | ⟨hpos, b, o, cap, rfl, hcap, hb, hc⟩
  · obtain rfl : p = false := HP.out.trans rfl
    clear hn h hlen HN
    go_enter Try.func57, Try.ntmps57
    go_wp2_with (go_at_call 56; refine (HV.out _).mono ?_; rintro e w' ⟨rfl, rfl⟩)
    go_ret
    exact ⟨rfl, below_alloc w _⟩
  · have HC := Lib.hid hc
    rw [← hn] at hpos hcap hlen ⊢
    have hn1 : ¬ (n : Int) < 1 := by omega
    have hbx : (w.alloc (.cells #[.int .i64 cr, .slice (some ⟨b, o, none⟩) n cap, en] 56)).heap[w.heap.size]? = some (.cells #[.int .i64 cr, .slice (some ⟨b, o, none⟩) n cap, en] 56 (0, 0)) := heap_alloc_new w _
    have HBX := Lib.hid hbx
    clear hn hc h hbx
    go_enter Try.func57, Try.ntmps57
    go_wp2_with (go_at_call 56; refine (HV.out _).mono ?_; rintro e w' ⟨rfl, rfl⟩)
    go_loopw [18] (fun i wr => ∃ k : Nat, i = .int .i64 k ∧ k ≤ n ∧ Hid (∀ j, j < k → okAt l j) ∧ Hid (Below w.heap.size w wr) ∧ Hid (wr.heap[w.heap.size]? = some (.cells #[.int .i64 cr, .slice (some ⟨b, o, none⟩) n cap, en] 56 (0, 0)))) (fun i _ => n - (RowKit.intOf i).toNat)
    case atStart => exact ⟨0, rfl, by omega, Lib.hid (fun j hj => by omega), Lib.hid (below_alloc w _), HBX⟩
    case round =>
      obtain ⟨k, rfl, hkn, HF, HB, HX⟩ := hrel
      by_cases hlt : k < n
      · have hkl : k < l.length := by rw [← HN.out]; exact hlt
        have c0 : wr.cell? ⟨b, o + k * 2, none⟩ = some (.int .i64 (subAt l k).id) := (HB.out.cell (p := ⟨b, o + k * 2, none⟩) hb).trans (HC.out k hkl).1
        have c1 : wr.cell? ⟨b, o + k * 2 + 1, none⟩ = some (.int .i64 (subAt l k).bal) := (HB.out.cell (p := ⟨b, o + k * 2 + 1, none⟩) hb).trans (HC.out k hkl).2
        have hxr := HX.out
        have v1 := obj_cell hxr 1
        simp at v1
        have hk0 : (0 : Int) ≤ (k : Int) := by omega
        have hk1 : (k : Int) < (n : Int) := by omega
        have hbw : b < wr.heap.size := Nat.lt_of_lt_of_le hb HB.out.size
        have hww : w.heap.size < wr.heap.size := obj_lt hxr
        obtain ⟨x, hx⟩ : ∃ x, x = (subAt l k).id := ⟨_, rfl⟩
        have HXE := Lib.hid hx
        rw [← hx] at c0
        generalize (subAt l k).bal = y at *
        have HB2 := Lib.hid (HB.out.alloc HB.out.size (.cells #[.int .i64 x, .int .i64 y] 62))
        have HX2 := Lib.hid (obj_below HX.out (below_alloc wr (.cells #[.int .i64 x, .int .i64 y] 62)))
        have HNO : Hid (¬ okAt l k → p = false) := Lib.hid fun hno => HP.out.trans (idsM_no hkl hno)
        have HYES : Hid (okAt l k → ∀ j, j < k + 1 → okAt l j) := Lib.hid fun hy j hj => by
          rcases (by omega : j < k ∨ j = k) with hj | rfl
          · exact HF.out j hj
          · exact hy
        clear hx hxr
        go_upto_region 6 with fail
        obtain ⟨W5, hW5⟩ : ∃ W, W = wr.alloc (.cells #[.int .i64 x, .int .i64 y] 62) := ⟨_, rfl⟩
        have s0 : W5.cell? ⟨wr.heap.size, 0, none⟩ = some (.int .i64 x) := by rw [hW5]; exact obj_cell (heap_alloc_new wr _) 0
        have s1 : W5.cell? ⟨w.heap.size, 1, none⟩ = some (.slice (some ⟨b, o, none⟩) n cap) := by rw [hW5]; exact obj_cell HX2.out 1
        have HB5 : Hid (Below w.heap.size w W5) := Lib.hid (by rw [hW5]; exact HB2.out)
        have HX5 : Hid (W5.heap[w.heap.size]? = some (.cells #[.int .i64 cr, .slice (some ⟨b, o, none⟩) n cap, en] 56 (0, 0))) := Lib.hid (by rw [hW5]; exact HX2.out)
        rw [← hW5]
        clear hW5 HB2 HX2 c0 c1 v1
        by_cases x1 : x < 1
        · have x1d : decide (x < 1) = true := decide_eq_true x1
          obtain rfl : p = false := HNO.out fun hok => by have := hok.1.1; rw [← HXE.out] at this; omega
          go_quiet (fail)
          go_wp2
          go_ret
          exact ⟨rfl, (below_drewN HB5.out _)⟩
        · have x1d : decide (x < 1) = false := decide_eq_false x1
          by_cases x2 : 1000 < x
          · have x2d : decide (1000 < x) = true := decide_eq_true x2
            obtain rfl : p = false := HNO.out fun hok => by have := hok.1.2; rw [← HXE.out] at this; omega
            go_quiet (fail)
            go_wp2
            go_ret
            exact ⟨rfl, (below_drewN HB5.out _)⟩
          · have x2d : decide (1000 < x) = false := decide_eq_false x2
            cases k with
            | zero =>
              by_cases x3 : x = 1
              · have HF2 : Hid (∀ j, j < 0 + 1 → okAt l j) := Lib.hid (HYES.out ⟨by rw [← HXE.out]; omega, fun _ => by rw [← HXE.out]; exact x3, fun h => by omega⟩)
                have x3' : (x == 1) = true := by rw [beq_iff_eq]; exact x3
                have x3'' : (x != 1) = false := by rw [bne, x3']; rfl
                clear x3
                go_quiet (fail)
                go_wp2
                go_roundw
                case rel => exact ⟨0 + 1, by first | rfl | go_num, by omega, HF2, Lib.hid (below_drewN HB5.out _), Lib.hid HX5.out⟩
                case measure => simp [RowKit.intOf]; omega
              · have x3' : (x == 1) = false := by rw [beq_eq_false_iff_ne]; exact x3
                have x3'' : (x != 1) = true := by rw [bne, x3']; rfl
                obtain rfl : p = false := HNO.out fun hok => x3 (HXE.out.trans (hok.2.1 rfl))
                clear x3
                go_quiet (fail)
                go_wp2
                go_ret
                exact ⟨rfl, (below_drewN HB5.out _)⟩
            | succ m =>
              have hml : m < l.length := by omega
              have d0 : W5.cell? ⟨b, o + m * 2, none⟩ = some (.int .i64 (subAt l m).id) := (HB5.out.cell (p := ⟨b, o + m * 2, none⟩) hb).trans (HC.out m hml).1
              obtain ⟨z, hz⟩ : ∃ z, z = (subAt l m).id := ⟨_, rfl⟩
              have HZE := Lib.hid hz
              rw [← hz] at d0
              have s2 := d0
              have hm0 : (0 : Int) ≤ (m : Int) := by omega
              have hm1 : (m : Int) < (n : Int) := by omega
              have hmz : ((m : Int) + 1 == 0) = false := by rw [beq_eq_false_iff_ne]; omega
              have hmp : decide ((0 : Int) < (m : Int) + 1) = true := decide_eq_true (by omega)
              have hmw : IntKind.i64.wrap ((m : Int) + 1 - 1) = (m : Int) := by rw [Int.add_sub_cancel]; exact IntWalk.i64_in _ (by omega)
              clear hz d0
              by_cases x3 : z < x
              · have x3d : decide (x ≤ z) = false := decide_eq_false (by omega)
                have HF2 : Hid (∀ j, j < m + 1 + 1 → okAt l j) := Lib.hid (HYES.out ⟨by rw [← HXE.out]; omega, fun h => by omega, fun _ => by rw [← HXE.out]; show (subAt l m).id < x; rw [← HZE.out]; exact x3⟩)
                go_quiet (fail)
                go_wp2
                go_roundw
                case rel => exact ⟨m + 1 + 1, by first | rfl | go_num, by omega, HF2, Lib.hid (below_drewN HB5.out _), Lib.hid HX5.out⟩
                case measure => simp [RowKit.intOf]; omega
              · have x3d : decide (x ≤ z) = true := decide_eq_true (by omega)
                obtain rfl : p = false := HNO.out fun hok => by
                  have := hok.2.2 (by omega)
                  rw [← HXE.out] at this
                  have h2 : (subAt l m).id < x := this
                  rw [← HZE.out] at h2
                  exact x3 h2
                go_quiet (fail)
                go_wp2
                go_ret
                exact ⟨rfl, (below_drewN HB5.out _)⟩
      · obtain rfl : k = n := by omega
        obtain rfl : p = true := HP.out.trans (idsM_true.2 ⟨by rw [← HN.out]; omega, fun i hi => HF.out i (by rw [HN.out]; exact hi)⟩)
        go_wp2
        go_ret
        exact ⟨rfl, HB.out⟩

end Go.Proofs.Ytoelidndnajedab
