/- register.carryOut: a possible move carried out on holdings of the call's own. -/
import Derived.Test.YtnfllgeneehjjaaMRhC
import Derived.Test.YtnfllgeneehjjaaMG2
set_option linter.unusedSimpArgs false
set_option linter.unusedVariables false
set_option linter.unusedSimpArgs false
set_option linter.unusedVariables false
namespace Go.Proofs.Ytnfllgeneehjjaa
open Go.RowKit Go.Lib Go.Proofs

set_option maxHeartbeats 8000000 in
set_option maxRecDepth 100000 in
theorem rxcarry_any (base : Nat) (v : Value) (l : List Hld) (m : Mv) (w : World) (hok : HsOk l) (hok2 : m.kind ≠ 1 → HsOk (setM m.sec m.frm (-m.amt) l)) (hl : l.length ≤ 998) (hamt : 1 ≤ m.amt ∧ m.amt ≤ 1000000000000)
    (hbase : base ≤ w.heap.size) (hown : w.ownsRow base 51 3 v l.length (cellsL hldC l)) :
    Calls Try.prog 63 #[v, .agg (mvC m).toArray] w fun e w' => ∃ v', e = .returned v' ∧ RowTo base 51 3 w v w' v' (carryM l m).length (cellsL hldC (carryM l m)) := by
  obtain ⟨nu, da, ki, se, fr, tt, am⟩ := m
  simp only at hok2 hamt
  simp only [mvC]
  have hlt : ∀ g, v.ownBlock = some g → g < w.heap.size := fun g hg => (hown.lt g hg).2
  obtain ⟨W1, hW1⟩ : ∃ W1, W1 = w.alloc (.cells #[.int .i64 nu, .int .i64 da, .int .i64 ki, .int .i64 se, .int .i64 fr, .int .i64 tt, .int .i64 am] 36) := ⟨_, rfl⟩
  have hB1 : Below w.heap.size w W1 := by rw [hW1]; exact below_alloc w _
  have A1 : W1.heap[w.heap.size]? = some (.cells #[.int .i64 nu, .int .i64 da, .int .i64 ki, .int .i64 se, .int .i64 fr, .int .i64 tt, .int .i64 am] 36 (0, 0)) := by rw [hW1]; exact heap_alloc_new w _
  have hown1 := ownsRow_below hown hB1
  have hbase1 : base ≤ W1.heap.size := Nat.le_trans hbase hB1.size
  have hbd : ∀ {k : List Hld}, HsOk k → ∀ n : Int, -1000000000000 ≤ n → n ≤ 1000000000000 → ∀ h ∈ k, -1000000000000000 ≤ h.amt + n ∧ h.amt + n ≤ 1000000000000000 := fun hk n h1 h2 h hh => by
    have := (hk.ok h hh).amt; omega
  obtain ⟨R, hR⟩ : ∃ R, R = carryM l ⟨nu, da, ki, se, fr, tt, am⟩ := ⟨_, rfl⟩
  rw [← hR]
  unfold carryM at hR
  simp only at hR
  have HA1 := Lib.hid A1
  have c0 := fun j => obj_cell A1 j
  have u2 := c0 2
  have u3 := c0 3
  have u4 := c0 4
  have u5 := c0 5
  have u6 := c0 6
  simp at u2 u3 u4 u5 u6
  have HAF : Hid (∀ e w', (∃ v', e = Ending.returned v' ∧ RowTo base 51 3 W1 v w' v' R.length (cellsL hldC R)) → ∃ v', e = Ending.returned v' ∧ RowTo base 51 3 w v w' v' R.length (cellsL hldC R)) := Lib.hid fun e w' ⟨v', h1, h2⟩ => ⟨v', h1, RowTo.after hB1 hlt h2⟩
  have hlt1 : ∀ g, v.ownBlock = some g → g ≠ w.heap.size := fun g hg => Nat.ne_of_lt (hlt g hg)
  have HW1 := Lib.hid hW1
  have HBX : Hid (∀ W', W1.grownBy W' v.ownBlock → W'.cell? ⟨w.heap.size, 2, none⟩ = some (.int .i64 ki) ∧ W'.cell? ⟨w.heap.size, 3, none⟩ = some (.int .i64 se) ∧ W'.cell? ⟨w.heap.size, 5, none⟩ = some (.int .i64 tt) ∧ W'.cell? ⟨w.heap.size, 6, none⟩ = some (.int .i64 am)) := Lib.hid fun W' hg => by
    have B1 := (hg.block w.heap.size (obj_lt A1) fun e => hlt1 _ e.symm rfl).trans A1
    exact ⟨obj_cell B1 2, obj_cell B1 3, obj_cell B1 5, obj_cell B1 6⟩
  by_cases k1 : ki = 1
  · have k3 : ¬ ki = 3 := by omega
    rw [if_pos k1, if_neg k3] at hR
    have HC := Lib.hid (rxchange_any base v l se tt am W1 hok.asc (by omega) (by omega) (hbd hok am (by omega) (by omega)) hbase1 hown1)
    rw [← hR] at HC
    clear hok hok2 hown hown1 hbd hlt hlt1 hbase hbase1 hB1 hR A1 c0
    subst k1
    go_enter Try.func63, Try.ntmps63
    go_wp2_with fail
    rw [← hW1]
    clear hW1
    go_wp2_with (go_at_call 91; with_reducible refine Calls.mono HC.out ?_; rintro e x8 ⟨v8, rfl, hR⟩; have HR := Lib.hid hR; clear hR)
    go_ret
    exact HAF.out _ _ ⟨_, rfl, HR.out⟩
  · have k1' : ki ≠ 1 := k1
    rw [if_neg k1] at hR
    have HC := Lib.hid (rxchange_any base v l se fr (-am) W1 hok.asc (by omega) (by omega) (hbd hok (-am) (by omega) (by omega)) hbase1 hown1)
    have hlen := setM_len se fr (-am) l
    by_cases k3 : ki = 3
    · rw [if_pos k3] at hR
      rw [← hR] at HC
      clear hok hok2 hown hown1 hbd hlt hlt1 hbase hbase1 hB1 hR A1 c0
      subst k3
      have hw : IntKind.i64.wrap (-am) = -am := by rw [IntKind.wrap_i64]; omega
      go_enter Try.func63, Try.ntmps63
      go_wp2_with fail
      rw [← hW1]
      clear hW1
      go_wp2_with (go_at_call 91; with_reducible refine Calls.mono HC.out ?_; rintro e x8 ⟨v8, rfl, hR⟩; obtain ⟨y2, y3, y5, y6⟩ := HBX.out _ hR.grown; have HR := Lib.hid hR; clear hR)
      go_ret
      exact HAF.out _ _ ⟨_, rfl, HR.out⟩
    · rw [if_neg k3] at hR
      have hk2 := hok2 k1'
      have HC2 : Hid (∀ W' v', RowTo base 51 3 W1 v W' v' (setM se fr (-am) l).length (cellsL hldC (setM se fr (-am) l)) → Calls Try.prog 91 #[v', .int .i64 se, .int .i64 tt, .int .i64 am] W' fun e w' => ∃ v'', e = .returned v'' ∧ RowTo base 51 3 W1 v w' v'' R.length (cellsL hldC R)) := Lib.hid fun W' v' hr => by
        refine (rxchange_any base v' _ se tt am W' hk2.asc (by omega) (by omega) (hbd hk2 am (by omega) (by omega)) (Nat.le_trans hbase1 hr.grown.size) hr.owns).mono ?_
        rintro e w' ⟨v'', h1, h2⟩
        rw [hR]
        exact ⟨v'', h1, hr.trans h2⟩
      clear hok hok2 hk2 hown hown1 hbd hlt hlt1 hbase hbase1 hB1 hR A1 c0
      have hw : IntKind.i64.wrap (-am) = -am := by rw [IntKind.wrap_i64]; omega
      go_enter Try.func63, Try.ntmps63
      go_wp2_with fail
      rw [← hW1]
      clear hW1
      go_wp2_with fail
      refine Calls.mono HC.out ?_
      rintro e x8 ⟨v8, rfl, hR⟩
      obtain ⟨y2, y3, y5, y6⟩ := HBX.out _ hR.grown
      have HC3 := Lib.hid (HC2.out _ _ hR)
      clear hR HC HC2
      go_wp2_with (go_at_call 91; with_reducible refine Calls.mono HC3.out ?_; rintro e x9 ⟨v9, rfl, hR⟩; have HR := Lib.hid hR; clear hR)
      go_ret
      exact HAF.out _ _ ⟨_, rfl, HR.out⟩

end Go.Proofs.Ytnfllgeneehjjaa
