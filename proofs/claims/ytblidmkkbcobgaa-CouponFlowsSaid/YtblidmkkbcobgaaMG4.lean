/- Texts of one claim, merged: RhC, RhK. -/
import Derived.Test.YtblidmkkbcobgaaMG3
import Derived.Test.YtblidmkkbcobgaaMDelHld
import Derived.Test.YtblidmkkbcobgaaMG1
/- register.change: what a holder has of a security, changed by an amount. -/
set_option linter.unusedSimpArgs false
set_option linter.unusedVariables false
set_option linter.unusedSimpArgs false
set_option linter.unusedVariables false
namespace Go.Proofs.Ytblidmkkbcobgaa
open Go.RowKit Go.Lib Go.Proofs

theorem pos_lt {h : Hld} {l : List Hld} {x : Hld} {i : Nat} (hl : hlt h x) (hp : PosH (h :: l) x i) : ∃ j, i = j + 1 ∧ PosH l x j := by
  cases i with
  | zero => exact absurd hl (hp.hi 0 (by simp) (Nat.le_refl _))
  | succ j =>
    refine ⟨j, rfl, ⟨by have := hp.le; simp at this; omega, fun k hk hkj => ?_, fun k hk hkj => ?_⟩⟩
    · have := hp.lo (k + 1) (by simp; omega) (by omega); simpa using this
    · have := hp.hi (k + 1) (by simp; omega) (by omega); simpa using this
theorem pos_ge {h : Hld} {l : List Hld} {x : Hld} {i : Nat} (hl : ¬ hlt h x) (hp : PosH (h :: l) x i) : i = 0 := by
  cases i with
  | zero => rfl
  | succ j => exact absurd (hp.lo 0 (by simp) (by omega)) hl
/-- What is not there is put in. -/
theorem set_new {id who n m : Int} (hn : n ≠ 0) : ∀ {l : List Hld} {i : Nat}, PosH l ⟨id, who, m⟩ i → hitH l ⟨id, who, m⟩ i = false → setM id who n l = l.take i ++ ⟨id, who, n⟩ :: l.drop i
  | [], i, hp, _ => by simp [setM, hn]
  | h :: l, i, hp, hh => by
    by_cases hl : hlt h ⟨id, who, m⟩
    · obtain ⟨j, rfl, hp2⟩ := pos_lt hl hp
      have h1 : h.sec < id ∨ (h.sec = id ∧ h.who < who) := hl
      unfold setM
      rw [if_pos h1, set_new hn hp2 (by
        unfold hitH at hh ⊢
        refine decide_eq_false fun ⟨hj, hc⟩ => ?_
        exact absurd ⟨by simp; omega, by simpa using hc⟩ (of_decide_eq_false hh))]
      rfl
    · have h0 := pos_ge hl hp
      subst h0
      have h1 : ¬ (h.sec < id ∨ (h.sec = id ∧ h.who < who)) := hl
      have h2 : ¬ (h.sec = id ∧ h.who = who) := fun e => by
        unfold hitH at hh
        exact absurd ⟨by simp, hldCmp_eq.2 (by simpa using e)⟩ (of_decide_eq_false hh)
      unfold setM
      rw [if_neg h1, if_neg h2, if_neg hn]
      rfl
/-- What is there is changed, or goes. -/
theorem set_old {id who n m : Int} : ∀ {l : List Hld} {i : Nat}, PosH l ⟨id, who, m⟩ i → hitH l ⟨id, who, m⟩ i = true → ∃ hi : i < l.length, l[i].sec = id ∧ l[i].who = who ∧ setM id who n l = (if l[i].amt + n = 0 then l.take i ++ l.drop (i + 1) else l.set i ⟨id, who, l[i].amt + n⟩)
  | [], i, hp, hh => by
    unfold hitH at hh
    obtain ⟨h, _⟩ := of_decide_eq_true hh
    simp at h
  | h :: l, i, hp, hh => by
    by_cases hl : hlt h ⟨id, who, m⟩
    · obtain ⟨j, rfl, hp2⟩ := pos_lt hl hp
      have h1 : h.sec < id ∨ (h.sec = id ∧ h.who < who) := hl
      obtain ⟨hj, e1, e2, e3⟩ := set_old (n := n) hp2 (by
        unfold hitH at hh ⊢
        obtain ⟨ha, hb⟩ := of_decide_eq_true hh
        exact decide_eq_true ⟨by simp at ha; omega, by simpa using hb⟩)
      refine ⟨by simp; omega, by simpa using e1, by simpa using e2, ?_⟩
      unfold setM
      rw [if_pos h1, e3]
      simp only [List.getElem_cons_succ]
      split <;> rfl
    · have h0 := pos_ge hl hp
      subst h0
      have h1 : ¬ (h.sec < id ∨ (h.sec = id ∧ h.who < who)) := hl
      have h2 : h.sec = id ∧ h.who = who := by
        unfold hitH at hh
        obtain ⟨ha, hb⟩ := of_decide_eq_true hh
        simpa using hldCmp_eq.1 hb
      refine ⟨by simp, h2.1, h2.2, ?_⟩
      unfold setM
      rw [if_neg h1, if_pos h2]
      rfl
theorem cellsH_set : ∀ (l : List Hld) (i : Nat) (hi : i < l.length) (n : Int), (cellsL hldC l).set (i * 3 + 2) (.int .i64 n) = cellsL hldC (l.set i ⟨l[i].sec, l[i].who, n⟩)
  | [], _, hi, _ => by simp at hi
  | h :: l, 0, _, n => rfl
  | h :: l, i + 1, hi, n => by
    have ih := cellsH_set l i (by simpa using hi) n
    rw [show (i + 1) * 3 + 2 = (i * 3 + 2) + 3 by omega]
    show .int .i64 h.sec :: .int .i64 h.who :: .int .i64 h.amt :: (cellsL hldC l).set (i * 3 + 2) (.int .i64 n) = _
    rw [ih]
    rfl

set_option maxHeartbeats 8000000 in
set_option maxRecDepth 100000 in
theorem rxchange_any (base : Nat) (v : Value) (l : List Hld) (id who n : Int) (w : World) (hasc : l.Pairwise hlt) (hl : l.length ≤ 999) (hn : n ≠ 0) (hb : ∀ h ∈ l, -1000000000000000 ≤ h.amt + n ∧ h.amt + n ≤ 1000000000000000)
    (hbase : base ≤ w.heap.size) (hown : w.ownsRow base 53 3 v l.length (cellsL hldC l)) :
    Calls Try.prog 136 #[v, .int .i64 id, .int .i64 who, .int .i64 n] w fun e w' => ∃ v', e = .returned v' ∧ RowTo base 53 3 w v w' v' (setM id who n l).length (cellsL hldC (setM id who n l)) := by
  have HBS : Hid (∀ W, Below w.heap.size w W → Calls Try.prog 142 #[v, .agg #[.int .i64 id, .int .i64 who, .int .i64 n], .func (.func 143) #[] #[]] W fun e w' => ∃ i, PosH l ⟨id, who, n⟩ i ∧ e = .returned (.tuple #[.int .i64 (i : Int), .bool (hitH l ⟨id, who, n⟩ i)]) ∧ Below W.heap.size W w') := Lib.hid fun W hW => by
    have h := bsHld_any l ⟨id, who, n⟩ v W hasc (by omega) ((ListAt.owns hown).below hW)
    simpa only [hldC] using h
  have hlt : ∀ g, v.ownBlock = some g → g < w.heap.size := fun g hg => (hown.lt g hg).2
  have HINS : Hid (∀ W, Below w.heap.size w W → ∀ i, i ≤ l.length → Calls Try.prog 144 #[v, .int .i64 (i : Int), .slice (some ⟨W.heap.size, 0, none⟩) 1 1] (W.alloc (.cells #[.int .i64 id, .int .i64 who, .int .i64 n] 53)) fun e w' => ∃ v', e = .returned v' ∧ RowTo base 53 3 w v w' v' (l.length + 1) (cellsL hldC (l.take i ++ ⟨id, who, n⟩ :: l.drop i))) := Lib.hid fun W hW i hi => by
    have hA : Below w.heap.size w (W.alloc (.cells #[.int .i64 id, .int .i64 who, .int .i64 n] 53)) := hW.alloc hW.size _
    refine (insHld_any base W.heap.size 1 i v l ⟨id, who, n⟩ _ _ _ (by omega) hi (Nat.le_trans hbase hA.size) (ownsRow_below hown hA) (heap_alloc_new W _) rfl fun e => ?_).mono ?_
    · have h1 := hlt _ e; have h2 := hW.size; omega
    · rintro e w' ⟨v', h1, h2⟩
      exact ⟨v', h1, RowTo.after hA hlt h2⟩
  obtain ⟨ao, cap, hv, hle, hcs⟩ := owns_gen hown
  have HL := Lib.hid hl
  have HW1 := Lib.hid (below_alloc w (.cells #[.int .i64 id, .int .i64 who, .int .i64 n] 53))
  have HOWN := Lib.hid hown
  have HB := Lib.hid hb
  have HBASE := Lib.hid hbase
  have HLT := Lib.hid hlt
  obtain ⟨N, hN⟩ : ∃ N, N = l.length := ⟨_, rfl⟩
  have HN := Lib.hid hN
  clear hown hb hbase hlt hasc
  subst hv
  go_enter Try.func136, Try.ntmps136
  go_wp2_with fail
  refine (HBS.out _ HW1.out).mono ?_
  rintro e x7 ⟨i, hP, rfl, b7⟩
  have hA1 : (w.alloc (.cells #[.int .i64 id, .int .i64 who, .int .i64 n] 53)).heap[w.heap.size]? = some (.cells #[.int .i64 id, .int .i64 who, .int .i64 n] 53 (0, 0)) := heap_alloc_new w _
  have hA2 := (b7.block _ (obj_lt hA1)).trans hA1
  have c0 := obj_cell hA2 0
  have c1 := obj_cell hA2 1
  have c2 := obj_cell hA2 2
  have HX : Hid (Below w.heap.size w x7) := Lib.hid (HW1.out.trans (b7.mono HW1.out.size))
  have HP := Lib.hid hP
  clear hA1 hA2 b7 hP HBS HW1
  generalize hq : hitH l ⟨id, who, n⟩ i = q
  cases q with
  | false =>
    have HI := Lib.hid (HINS.out x7 HX.out i HP.out.le)
    have HS := Lib.hid (set_new hn HP.out hq)
    clear hq HINS
    go_wp2_with (go_at_call 144; with_reducible refine Calls.mono HI.out ?_; rintro e x8 ⟨v8, rfl, hR⟩; have HR := Lib.hid hR; clear hR)
    go_ret
    refine ⟨_, rfl, ?_⟩
    have hlen : (setM id who n l).length = l.length + 1 := by
      rw [HS.out]; simp only [List.length_append, List.length_take, List.length_cons, List.length_drop]; have := HP.out.le; omega
    rw [hlen, HS.out]
    exact HR.out
  | true =>
    obtain ⟨hi, e1, e2, e3⟩ := set_old (n := n) HP.out hq
    have HS := Lib.hid e3
    clear HINS hq e3 c0 c1 c2
    obtain ⟨g, rfl, hbg⟩ : ∃ g, ao = some ⟨g, 0, none⟩ ∧ base ≤ g := by
      rcases hcs with ⟨_, h0, _⟩ | h
      · omega
      · exact h
    have hown7 := ownsRow_below HOWN.out HX.out
    have hci := hown7.cellAt (i * 3 + 2) (by omega)
    have hget : (cellsL hldC l)[i * 3 + 2]? = some (.int .i64 l[i].amt) := by
      rw [cellsL_get hldF l i 2 hi (by omega)]; rfl
    rw [hget] at hci
    have hfi := hown7.frozenAt (i * 3 + 2)
    have hst := hown7.stored (i * 3 + 2) (.int .i64 (l[i].amt + n))
    rw [cellsH_set l i hi] at hst
    rw [e1, e2] at hst
    have hbi := HB.out _ (List.getElem_mem hi)
    have HST := Lib.hid hst
    obtain ⟨am, ham⟩ : ∃ am, am = l[i].amt := ⟨_, rfl⟩
    rw [← ham] at hci hbi HST HS
    have hw : IntKind.i64.wrap (am + n) = am + n := by rw [IntKind.wrap_i64]; omega
    have hii : (i : Int) < (l.length : Int) := by omega
    have hi0 : (0 : Int) ≤ (i : Int) := by omega
    have hiw : IntKind.i64.wrap ((i : Int) + 1) = (i : Int) + 1 := by rw [IntKind.wrap_i64]; omega
    have HLT2 : Hid (g < w.heap.size) := Lib.hid (HLT.out g rfl)
    have HR1 : Hid (RowTo base 53 3 w (.slice (some ⟨g, 0, none⟩) l.length cap) (x7.setCell ⟨g, i * 3 + 2, none⟩ (.int .i64 (am + n))) (.slice (some ⟨g, 0, none⟩) l.length cap) l.length (cellsL hldC (l.set i ⟨id, who, am + n⟩))) := Lib.hid (RowTo.after HX.out HLT.out ⟨HST.out.1, HST.out.2, Or.inl rfl⟩)
    have HDEL : Hid (Calls Try.prog 145 #[.slice (some ⟨g, 0, none⟩) l.length cap, .int .i64 (i : Int), .int .i64 ((i : Int) + 1)] (x7.setCell ⟨g, i * 3 + 2, none⟩ (.int .i64 (am + n))) fun e w' => ∃ v', e = .returned v' ∧ RowTo base 53 3 w (.slice (some ⟨g, 0, none⟩) l.length cap) w' v' (l.length - 1) (cellsL hldC (l.take i ++ l.drop (i + 1)))) := Lib.hid (by
      have hsl : (l.set i ⟨id, who, am + n⟩).length = l.length := List.length_set
      have h := delHld_any base g cap i (l.set i ⟨id, who, am + n⟩) (x7.setCell ⟨g, i * 3 + 2, none⟩ (.int .i64 (am + n))) (by rw [hsl]; omega) (by rw [hsl]; exact hi) (by rw [hsl]; exact HST.out.1)
      rw [hsl, List.take_set_of_le (Nat.le_refl _), List.drop_set_of_lt (by omega)] at h
      refine h.mono ?_
      rintro e w' ⟨v', h1, h2⟩
      exact ⟨v', h1, HR1.out.trans h2⟩)
    clear hown7 hget hst hcs hbi e1 e2 ham
    by_cases hz : am + n = 0
    · rw [hz] at HDEL
      go_wp2_with (go_at_call 145; with_reducible refine Calls.mono HDEL.out ?_; rintro e x8 ⟨v8, rfl, hR⟩; have HR := Lib.hid hR; clear hR)
      go_ret
      refine ⟨_, rfl, ?_⟩
      have hlen : (setM id who n l).length = l.length - 1 := by
        rw [HS.out, if_pos hz]; simp only [List.length_append, List.length_take, List.length_drop]; omega
      rw [hlen, HS.out, if_pos hz]
      exact HR.out
    · go_wp2
      go_ret
      refine ⟨_, rfl, ?_⟩
      rw [HS.out, if_neg hz, List.length_set]
      exact HR1.out

end Go.Proofs.Ytblidmkkbcobgaa

/- register.carryOut: a possible move carried out on holdings of the call's own. -/
set_option linter.unusedSimpArgs false
set_option linter.unusedVariables false
namespace Go.Proofs.Ytblidmkkbcobgaa
open Go.RowKit Go.Lib Go.Proofs

set_option maxHeartbeats 8000000 in
set_option maxRecDepth 100000 in
theorem rxcarry_any (base : Nat) (v : Value) (l : List Hld) (m : Mv) (w : World) (hok : HsOk l) (hok2 : m.kind ≠ 1 → HsOk (setM m.sec m.frm (-m.amt) l)) (hl : l.length ≤ 998) (hamt : 1 ≤ m.amt ∧ m.amt ≤ 1000000000000)
    (hbase : base ≤ w.heap.size) (hown : w.ownsRow base 53 3 v l.length (cellsL hldC l)) :
    Calls Try.prog 124 #[v, .agg (mvC m).toArray] w fun e w' => ∃ v', e = .returned v' ∧ RowTo base 53 3 w v w' v' (carryM l m).length (cellsL hldC (carryM l m)) := by
  obtain ⟨nu, da, ki, se, fr, tt, am⟩ := m
  simp only at hok2 hamt
  simp only [mvC]
  have hlt : ∀ g, v.ownBlock = some g → g < w.heap.size := fun g hg => (hown.lt g hg).2
  obtain ⟨W1, hW1⟩ : ∃ W1, W1 = w.alloc (.cells #[.int .i64 nu, .int .i64 da, .int .i64 ki, .int .i64 se, .int .i64 fr, .int .i64 tt, .int .i64 am] 104) := ⟨_, rfl⟩
  have hB1 : Below w.heap.size w W1 := by rw [hW1]; exact below_alloc w _
  have A1 : W1.heap[w.heap.size]? = some (.cells #[.int .i64 nu, .int .i64 da, .int .i64 ki, .int .i64 se, .int .i64 fr, .int .i64 tt, .int .i64 am] 104 (0, 0)) := by rw [hW1]; exact heap_alloc_new w _
  have hown1 := ownsRow_below hown hB1
  have hbase1 : base ≤ W1.heap.size := Nat.le_trans hbase hB1.size
  have hbd : ∀ {k : List Hld}, HsOk k → ∀ n : Int, -1000000000000 ≤ n → n ≤ 1000000000000 → ∀ h ∈ k, -1000000000000000 ≤ h.amt + n ∧ h.amt + n ≤ 1000000000000000 := fun hk n h1 h2 h hh => by
    have := (hk.ok h hh).amt; omega
  obtain ⟨R, hR⟩ : ∃ R, R = carryM l ⟨nu, da, ki, se, fr, tt, am⟩ := ⟨_, rfl⟩
  rw [← hR]
  unfold carryM at hR
  simp only at hR
  have HA1 := Lib.hid A1
  have c0 := fun j => obj_cell A1 j
  have u2 := c0 2
  have u3 := c0 3
  have u4 := c0 4
  have u5 := c0 5
  have u6 := c0 6
  simp at u2 u3 u4 u5 u6
  have HAF : Hid (∀ e w', (∃ v', e = Ending.returned v' ∧ RowTo base 53 3 W1 v w' v' R.length (cellsL hldC R)) → ∃ v', e = Ending.returned v' ∧ RowTo base 53 3 w v w' v' R.length (cellsL hldC R)) := Lib.hid fun e w' ⟨v', h1, h2⟩ => ⟨v', h1, RowTo.after hB1 hlt h2⟩
  have hlt1 : ∀ g, v.ownBlock = some g → g ≠ w.heap.size := fun g hg => Nat.ne_of_lt (hlt g hg)
  have HW1 := Lib.hid hW1
  have HBX : Hid (∀ W', W1.grownBy W' v.ownBlock → W'.cell? ⟨w.heap.size, 2, none⟩ = some (.int .i64 ki) ∧ W'.cell? ⟨w.heap.size, 3, none⟩ = some (.int .i64 se) ∧ W'.cell? ⟨w.heap.size, 5, none⟩ = some (.int .i64 tt) ∧ W'.cell? ⟨w.heap.size, 6, none⟩ = some (.int .i64 am)) := Lib.hid fun W' hg => by
    have B1 := (hg.block w.heap.size (obj_lt A1) fun e => hlt1 _ e.symm rfl).trans A1
    exact ⟨obj_cell B1 2, obj_cell B1 3, obj_cell B1 5, obj_cell B1 6⟩
  by_cases k1 : ki = 1
  · have k3 : ¬ ki = 3 := by omega
    rw [if_pos k1, if_neg k3] at hR
    have HC := Lib.hid (rxchange_any base v l se tt am W1 hok.asc (by omega) (by omega) (hbd hok am (by omega) (by omega)) hbase1 hown1)
    rw [← hR] at HC
    clear hok hok2 hown hown1 hbd hlt hlt1 hbase hbase1 hB1 hR A1 c0
    subst k1
    go_enter Try.func124, Try.ntmps124
    go_wp2_with fail
    rw [← hW1]
    clear hW1
    go_wp2_with (go_at_call 136; with_reducible refine Calls.mono HC.out ?_; rintro e x8 ⟨v8, rfl, hR⟩; have HR := Lib.hid hR; clear hR)
    go_ret
    exact HAF.out _ _ ⟨_, rfl, HR.out⟩
  · have k1' : ki ≠ 1 := k1
    rw [if_neg k1] at hR
    have HC := Lib.hid (rxchange_any base v l se fr (-am) W1 hok.asc (by omega) (by omega) (hbd hok (-am) (by omega) (by omega)) hbase1 hown1)
    have hlen := setM_len se fr (-am) l
    by_cases k3 : ki = 3
    · rw [if_pos k3] at hR
      rw [← hR] at HC
      clear hok hok2 hown hown1 hbd hlt hlt1 hbase hbase1 hB1 hR A1 c0
      subst k3
      have hw : IntKind.i64.wrap (-am) = -am := by rw [IntKind.wrap_i64]; omega
      go_enter Try.func124, Try.ntmps124
      go_wp2_with fail
      rw [← hW1]
      clear hW1
      go_wp2_with (go_at_call 136; with_reducible refine Calls.mono HC.out ?_; rintro e x8 ⟨v8, rfl, hR⟩; obtain ⟨y2, y3, y5, y6⟩ := HBX.out _ hR.grown; have HR := Lib.hid hR; clear hR)
      go_ret
      exact HAF.out _ _ ⟨_, rfl, HR.out⟩
    · rw [if_neg k3] at hR
      have hk2 := hok2 k1'
      have HC2 : Hid (∀ W' v', RowTo base 53 3 W1 v W' v' (setM se fr (-am) l).length (cellsL hldC (setM se fr (-am) l)) → Calls Try.prog 136 #[v', .int .i64 se, .int .i64 tt, .int .i64 am] W' fun e w' => ∃ v'', e = .returned v'' ∧ RowTo base 53 3 W1 v w' v'' R.length (cellsL hldC R)) := Lib.hid fun W' v' hr => by
        refine (rxchange_any base v' _ se tt am W' hk2.asc (by omega) (by omega) (hbd hk2 am (by omega) (by omega)) (Nat.le_trans hbase1 hr.grown.size) hr.owns).mono ?_
        rintro e w' ⟨v'', h1, h2⟩
        rw [hR]
        exact ⟨v'', h1, hr.trans h2⟩
      clear hok hok2 hk2 hown hown1 hbd hlt hlt1 hbase hbase1 hB1 hR A1 c0
      have hw : IntKind.i64.wrap (-am) = -am := by rw [IntKind.wrap_i64]; omega
      go_enter Try.func124, Try.ntmps124
      go_wp2_with fail
      rw [← hW1]
      clear hW1
      go_wp2_with fail
      refine Calls.mono HC.out ?_
      rintro e x8 ⟨v8, rfl, hR⟩
      obtain ⟨y2, y3, y5, y6⟩ := HBX.out _ hR.grown
      have HC3 := Lib.hid (HC2.out _ _ hR)
      clear hR HC HC2
      go_wp2_with (go_at_call 136; with_reducible refine Calls.mono HC3.out ?_; rintro e x9 ⟨v9, rfl, hR⟩; have HR := Lib.hid hR; clear hR)
      go_ret
      exact HAF.out _ _ ⟨_, rfl, HR.out⟩

end Go.Proofs.Ytblidmkkbcobgaa
