/- Texts of one claim, merged: RyA, RyB, RyC. -/
import Derived.Test.YtblidmkkbcobgaaMRhG
/- The register's reference: Find, outstanding, held, holder. -/
set_option linter.unusedSimpArgs false
set_option linter.unusedVariables false
set_option linter.unusedSimpArgs false
set_option linter.unusedVariables false
namespace Go.Proofs.Ytblidmkkbcobgaa
open Go.RowKit Go.Lib Go.Proofs

set_option maxHeartbeats 8000000 in
theorem ryFind_any (secs : List Sec) (id : Int) (x y z : Value) (w : World) (hl : ListAt Sec.cells 7 w x secs) (hlen : secs.length ≤ 1000000) :
    Calls Try.prog 23 #[.agg #[x, y, z], .int .i64 id] w fun e w' => e = .returned (.tuple #[.agg (((findS id secs).getD Sec.zero).cells).toArray, .bool (findS id secs).isSome]) ∧ Below w.heap.size w w' := by
  obtain ⟨ao, cap, rfl, hcap, hcs⟩ := hl.shape secF
  have HCS := Lib.hid hcs
  obtain ⟨n, hn⟩ : ∃ n, n = secs.length := ⟨_, rfl⟩
  have HN := Lib.hid hn
  rw [← hn] at hcap hlen ⊢
  obtain ⟨res, hres⟩ : ∃ res, res = findS id secs := ⟨_, rfl⟩
  have HRES := Lib.hid hres
  rw [← hres]
  have HR0 := Lib.hid (alloc2_at w (.cells #[.slice ao n cap, y, z] 29) (.cells #[.int .i64 0, .int .i64 0, .int .i64 0, .int .i64 0, .int .i64 0, .int .i64 0, .bool false] 55))
  have HB0 := Lib.hid (below2 w (.cells #[.slice ao n cap, y, z] 29) (.cells #[.int .i64 0, .int .i64 0, .int .i64 0, .int .i64 0, .int .i64 0, .int .i64 0, .bool false] 55))
  clear hn hcs hl hres
  go_enter Try.func23, Try.ntmps23
  go_wp2
  go_loopw [11] (fun iv wr => ∃ k : Nat, iv = .int .i64 (k : Int) ∧ k ≤ n ∧ Hid (findS id (secs.take k) = none) ∧ Hid (Below w.heap.size w wr) ∧ Hid (wr.heap[w.heap.size + 1]? = some (.cells #[.int .i64 0, .int .i64 0, .int .i64 0, .int .i64 0, .int .i64 0, .int .i64 0, .bool false] 55 (0, 0)))) (fun iv _ => n - (RowKit.intOf iv).toNat)
  case atStart => exact ⟨0, rfl, by omega, Lib.hid rfl, HB0, HR0⟩
  case round =>
    clear HB0 HR0
    obtain ⟨k, rfl, hkn, HF, HB, HR⟩ := hrel
    by_cases hlk : k < n
    · have hkl : k < secs.length := by rw [← HN.out]; exact hlk
      obtain ⟨b, o, rfl, hb, hcc⟩ := HCS.out (by omega)
      have hcell := fun j (hj : j < 7) => (HB.out.cell (p := ⟨b, o + k * 7 + j, none⟩) hb).trans (hcc k hkl j hj)
      have HSN : Hid (findS id (secs.take (k + 1)) = if secs[k].id = id then some secs[k] else none) := Lib.hid (by
        rw [List.take_succ_eq_append_getElem hkl]; exact findS_snoc HF.out)
      have HAP : Hid (∀ s, findS id (secs.take (k + 1)) = some s → res = some s) := Lib.hid fun s hs => by
        rw [HRES.out, ← List.take_append_drop (k + 1) secs]; exact findS_app hs
      generalize secs[k] = s at *
      obtain ⟨s0, s1, s2, s3, s4, s5, s6⟩ := s
      clear hcc
      have c0 := hcell 0 (by omega)
      have c1 := hcell 1 (by omega)
      have c2 := hcell 2 (by omega)
      have c3 := hcell 3 (by omega)
      have c4 := hcell 4 (by omega)
      have c5 := hcell 5 (by omega)
      have c6 := hcell 6 (by omega)
      simp [Sec.cells] at c0 c1 c2 c3 c4 c5 c6
      clear hcell
      have hk0 : (0 : Int) ≤ (k : Int) := by omega
      have hk1 : (k : Int) < (n : Int) := by omega
      obtain ⟨W1, hW1⟩ : ∃ W1, W1 = wr.alloc (.cells #[.int .i64 s0, .int .i64 s1, .int .i64 s2, .int .i64 s3, .int .i64 s4, .int .i64 s5, .bool s6] 55) := ⟨_, rfl⟩
      have HB1 : Hid (Below w.heap.size w W1) := Lib.hid (by rw [hW1]; exact HB.out.alloc HB.out.size _)
      have HR1 : Hid (W1.heap[w.heap.size + 1]? = some (.cells #[.int .i64 0, .int .i64 0, .int .i64 0, .int .i64 0, .int .i64 0, .int .i64 0, .bool false] 55 (0, 0))) := Lib.hid (by rw [hW1]; exact obj_below HR.out (below_alloc wr _))
      by_cases hid0 : s0 = id
      · subst hid0
        have hr := HAP.out _ (HSN.out.trans (if_pos rfl))
        subst hr
        have hfr := fun j => obj_free HR1.out j
        have f0 := hfr 0
        have f1 := hfr 1
        have f2 := hfr 2
        have f3 := hfr 3
        have f4 := hfr 4
        have f5 := hfr 5
        have f6 := hfr 6
        have hrc := fun j => obj_cell HR1.out j
        have r0 := hrc 0
        have r1 := hrc 1
        have r2 := hrc 2
        have r3 := hrc 3
        have r4 := hrc 4
        have r5 := hrc 5
        have r6 := hrc 6
        simp at r0 r1 r2 r3 r4 r5 r6
        have hN : W1.heap[wr.heap.size]? = some (.cells #[.int .i64 s0, .int .i64 s1, .int .i64 s2, .int .i64 s3, .int .i64 s4, .int .i64 s5, .bool s6] 55 (0, 0)) := by rw [hW1]; exact heap_alloc_new wr _
        have n0 := obj_cell hN 0
        have n1 := obj_cell hN 1
        have n2 := obj_cell hN 2
        have n3 := obj_cell hN 3
        have n4 := obj_cell hN 4
        have n5 := obj_cell hN 5
        have n6 := obj_cell hN 6
        simp at n0 n1 n2 n3 n4 n5 n6
        clear hrc hfr hN HSN HAP
        go_upto_region 4 with fail
        rw [← hW1]
        clear hW1 c0 c1 c2 c3 c4 c5 c6
        go_wp2
        refine ret7 HR1.out rfl _ _ _ _ _ _ _ (fun F hF => ?_) rfl ⟨rfl, put7_below HB1.out (by omega) _ _ _ _ _ _ _⟩
        have q0 := obj_cell hF 0
        have q1 := obj_cell hF 1
        have q2 := obj_cell hF 2
        have q3 := obj_cell hF 3
        have q4 := obj_cell hF 4
        have q5 := obj_cell hF 5
        have q6 := obj_cell hF 6
        simp [results, Try.results23, go_sem, q0, q1, q2, q3, q4, q5, q6, Sec.cells]
      · have HSN2 : Hid (findS id (secs.take (k + 1)) = none) := Lib.hid (HSN.out.trans (if_neg hid0))
        clear HSN HAP
        go_wp2
        go_roundw
        case rel =>
          rw [← hW1]
          exact ⟨k + 1, by first | rfl | go_num, by omega, HSN2, HB1, HR1⟩
        case measure => simp [RowKit.intOf]; omega
    · obtain rfl : k = n := by omega
      have hr : res = none := by rw [HRES.out, ← HF.out, HN.out, List.take_length]
      subst hr
      have hfr := fun j => obj_free HR.out j
      have f0 := hfr 0
      have f1 := hfr 1
      have f2 := hfr 2
      have f3 := hfr 3
      have f4 := hfr 4
      have f5 := hfr 5
      have f6 := hfr 6
      have hrc := fun j => obj_cell HR.out j
      have r0 := hrc 0
      have r1 := hrc 1
      have r2 := hrc 2
      have r3 := hrc 3
      have r4 := hrc 4
      have r5 := hrc 5
      have r6 := hrc 6
      simp at r0 r1 r2 r3 r4 r5 r6
      clear hrc hfr
      go_wp2
      refine ret7 HR.out rfl _ _ _ _ _ _ _ (fun F hF => ?_) rfl ⟨rfl, put7_below HB.out (by omega) _ _ _ _ _ _ _⟩
      have q0 := obj_cell hF 0
      have q1 := obj_cell hF 1
      have q2 := obj_cell hF 2
      have q3 := obj_cell hF 3
      have q4 := obj_cell hF 4
      have q5 := obj_cell hF 5
      have q6 := obj_cell hF 6
      simp [results, Try.results23, go_sem, q0, q1, q2, q3, q4, q5, q6, Sec.cells, Sec.zero]


theorem ryholder_any (n : Int) (w : World) : Calls Try.prog 128 #[.int .i64 n] w fun e w' => e = .returned (.bool (inB n 1 1000)) ∧ w = w' := by
  by_cases h1 : 1 ≤ n
  · by_cases h2 : n ≤ 1000
    · rw [show inB n 1 1000 = true from inB_true.2 ⟨h1, h2⟩]
      go_enter Try.func128, Try.ntmps128
      go_wp2
      go_ret
      exact ⟨rfl, rfl⟩
    · rw [show inB n 1 1000 = false from inB_false.2 (fun q => h2 q.2)]
      go_enter Try.func128, Try.ntmps128
      go_wp2
      go_ret
      exact ⟨rfl, rfl⟩
  · rw [show inB n 1 1000 = false from inB_false.2 (fun q => h1 q.1)]
    go_enter Try.func128, Try.ntmps128
    go_wp2
    go_ret
    exact ⟨rfl, rfl⟩

set_option maxHeartbeats 4000000 in
theorem ryoutstanding_any (l : List Hld) (id : Int) (v : Value) (w : World) (hl : ListAt hldC 3 w v l) (hlen : l.length ≤ 1000000) (hb : sumB (isOf id) l) :
    Calls Try.prog 129 #[v, .int .i64 id] w fun e w' => e = .returned (.int .i64 (outM l id)) ∧ Below w.heap.size w w' := by
  obtain ⟨ao, cap, rfl, hcap, hcs⟩ := hl.shape hldF
  have HCS := Lib.hid hcs
  have HSB := Lib.hid hb
  obtain ⟨n, hn⟩ : ∃ n, n = l.length := ⟨_, rfl⟩
  have HN := Lib.hid hn
  rw [← hn] at hcap hlen ⊢
  obtain ⟨res, hres⟩ : ∃ res, res = sumH (isOf id) l := ⟨_, rfl⟩
  have HRES := Lib.hid hres
  unfold outM
  rw [← hres]
  clear hn hcs hl hb hres
  go_enter Try.func129, Try.ntmps129
  go_wp2
  go_loopw [5, 10] (fun sv iv wr => ∃ k : Nat, sv = .int .i64 (sumH (isOf id) (l.take k)) ∧ iv = .int .i64 (k : Int) ∧ k ≤ n ∧ Hid (Below w.heap.size w wr)) (fun _ iv _ => n - (RowKit.intOf iv).toNat)
  case atStart => exact ⟨0, rfl, rfl, by omega, Lib.hid (Below.refl _ _)⟩
  case round =>
    obtain ⟨k, rfl, rfl, hkn, HB⟩ := hrel
    by_cases hlk : k < n
    · have hkl : k < l.length := by rw [← HN.out]; exact hlk
      obtain ⟨b, o, rfl, hb, hcc⟩ := HCS.out (by omega)
      have hcell := fun j (hj : j < 3) => (HB.out.cell (p := ⟨b, o + k * 3 + j, none⟩) hb).trans (hcc k hkl j hj)
      have htk : sumH (isOf id) (l.take (k + 1)) = sumH (isOf id) (l.take k) + (if isOf id l[k] then l[k].amt else 0) := by
        rw [← sumH_snoc, ← List.take_succ_eq_append_getElem hkl]
      have hb1 := HSB.out k
      have hb2 := HSB.out (k + 1)
      rw [htk] at hb2
      have HTK := Lib.hid htk
      clear htk
      obtain ⟨s0, hs0⟩ : ∃ s0, s0 = sumH (isOf id) (l.take k) := ⟨_, rfl⟩
      rw [← hs0] at hb1 hb2 HTK ⊢
      generalize l[k] = x at *
      obtain ⟨xa, xb, xc⟩ := x
      simp only at hb2
      have hcd : isOf id ⟨xa, xb, xc⟩ = (xa == id) := rfl
      rw [hcd] at hb2 HTK
      clear hcc hs0 hcd
      have c0 := hcell 0 (by omega)
      have c1 := hcell 1 (by omega)
      have c2 := hcell 2 (by omega)
      simp [hldC] at c0 c1 c2
      have hk0 : (0 : Int) ≤ (k : Int) := by omega
      have hk1 : (k : Int) < (n : Int) := by omega
      have HXP := Lib.hid (heap_alloc_new wr (.cells #[.int .i64 xa, .int .i64 xb, .int .i64 xc] 53))
      have HBP := Lib.hid (HB.out.alloc HB.out.size (.cells #[.int .i64 xa, .int .i64 xb, .int .i64 xc] 53))
      clear hcell
      by_cases hxi : xa = id
      · subst hxi
        rw [beq_self_eq_true] at hb2 HTK
        simp only [if_true] at hb2
        have hw : IntKind.i64.wrap (s0 + xc) = s0 + xc := IntWalk.i64_in _ (by omega)
        go_wp2
        go_roundw
        case rel => exact ⟨k + 1, by rw [HTK.out]; simp, by first | rfl | go_num, by omega, HBP⟩
        case measure => simp [RowKit.intOf]; omega
      · have hbe : (xa == id) = false := beq_eq_false_iff_ne.2 hxi
        rw [hbe] at HTK
        go_wp2
        go_roundw
        case rel => exact ⟨k + 1, by rw [HTK.out]; simp, by first | rfl | go_num, by omega, HBP⟩
        case measure => simp [RowKit.intOf]; omega
    · obtain rfl : k = n := by omega
      have hR : sumH (isOf id) (l.take k) = res := by rw [HRES.out, HN.out, List.take_length]
      rw [hR]
      go_wp2
      go_ret
      exact ⟨rfl, HB.out⟩

end Go.Proofs.Ytblidmkkbcobgaa

/- The register's reference: held. -/
set_option linter.unusedSimpArgs false
set_option linter.unusedVariables false
namespace Go.Proofs.Ytblidmkkbcobgaa
open Go.RowKit Go.Lib Go.Proofs

/-- The first holding of a security and a holder. -/
def firstH (id who : Int) : List Hld → Int
  | [] => 0
  | h :: l => if h.sec = id ∧ h.who = who then h.amt else firstH id who l
theorem firstH_eq {id who : Int} : ∀ {l : List Hld}, l.Pairwise hlt → firstH id who l = heldM l id who
  | [], _ => rfl
  | h :: l, hp => by
    have hp2 := List.pairwise_cons.1 hp
    unfold heldM sumH firstH
    by_cases hc : h.sec = id ∧ h.who = who
    · have h1 : isAt id who h = true := by simp [isAt, hc.1, hc.2]
      have h2 : heldM l id who = 0 := heldM_low (l := l) fun k hk => by
        have h3 := hp2.1 k hk
        unfold hlt at h3 ⊢
        simp only
        omega
      unfold heldM at h2
      rw [if_pos hc, h1, h2]; simp
    · have h1 : isAt id who h = false := by
        unfold isAt
        by_cases e : h.sec = id
        · rw [beq_eq_false_iff_ne.2 (fun e2 => hc ⟨e, e2⟩), Bool.and_false]
        · rw [beq_eq_false_iff_ne.2 e, Bool.false_and]
      have ih := firstH_eq (id := id) (who := who) hp2.2
      unfold heldM at ih
      rw [if_neg hc, h1, ih]; simp
theorem firstH_app {id who : Int} {x : Hld} : ∀ {l k : List Hld}, (∀ h ∈ l, ¬ (h.sec = id ∧ h.who = who)) → firstH id who (l ++ x :: k) = if x.sec = id ∧ x.who = who then x.amt else firstH id who k
  | [], k, _ => rfl
  | h :: l, k, hn => by
    have e : firstH id who (h :: l ++ x :: k) = firstH id who (l ++ x :: k) := by
      show (if h.sec = id ∧ h.who = who then h.amt else firstH id who (l ++ x :: k)) = _
      exact if_neg (hn h List.mem_cons_self)
    rw [e]
    exact firstH_app fun y hy => hn y (List.mem_cons_of_mem _ hy)
theorem firstH_none {id who : Int} : ∀ {l : List Hld}, (∀ h ∈ l, ¬ (h.sec = id ∧ h.who = who)) → firstH id who l = 0
  | [], _ => rfl
  | h :: l, hn => by
    unfold firstH
    rw [if_neg (hn h List.mem_cons_self)]
    exact firstH_none fun y hy => hn y (List.mem_cons_of_mem _ hy)

set_option maxHeartbeats 4000000 in
theorem ryheld_any (l : List Hld) (id who : Int) (v : Value) (w : World) (hl : ListAt hldC 3 w v l) (hlen : l.length ≤ 1000000) :
    Calls Try.prog 67 #[v, .int .i64 id, .int .i64 who] w fun e w' => e = .returned (.int .i64 (firstH id who l)) ∧ Below w.heap.size w w' := by
  obtain ⟨ao, cap, rfl, hcap, hcs⟩ := hl.shape hldF
  have HCS := Lib.hid hcs
  obtain ⟨n, hn⟩ : ∃ n, n = l.length := ⟨_, rfl⟩
  have HN := Lib.hid hn
  rw [← hn] at hcap hlen ⊢
  obtain ⟨res, hres⟩ : ∃ res, res = firstH id who l := ⟨_, rfl⟩
  have HRES := Lib.hid hres
  rw [← hres]
  clear hn hcs hl hres
  go_enter Try.func67, Try.ntmps67
  go_wp2
  go_loopw [11] (fun iv wr => ∃ k : Nat, iv = .int .i64 (k : Int) ∧ k ≤ n ∧ Hid (∀ h ∈ l.take k, ¬ (h.sec = id ∧ h.who = who)) ∧ Hid (Below w.heap.size w wr)) (fun iv _ => n - (RowKit.intOf iv).toNat)
  case atStart => exact ⟨0, rfl, by omega, Lib.hid (fun h hh => by simp at hh), Lib.hid (Below.refl _ _)⟩
  case round =>
    obtain ⟨k, rfl, hkn, HNO, HB⟩ := hrel
    by_cases hlk : k < n
    · have hkl : k < l.length := by rw [← HN.out]; exact hlk
      obtain ⟨b, o, rfl, hb, hcc⟩ := HCS.out (by omega)
      have hcell := fun j (hj : j < 3) => (HB.out.cell (p := ⟨b, o + k * 3 + j, none⟩) hb).trans (hcc k hkl j hj)
      have HYES : Hid (l[k].sec = id ∧ l[k].who = who → res = l[k].amt) := Lib.hid fun h => by
        have e : l = l.take k ++ l[k] :: l.drop (k + 1) := by rw [← List.drop_eq_getElem_cons hkl, List.take_append_drop]
        have e2 : firstH id who l = firstH id who (l.take k ++ l[k] :: l.drop (k + 1)) := congrArg _ e
        rw [HRES.out, e2, firstH_app HNO.out, if_pos h]
      have HNXT : Hid (¬ (l[k].sec = id ∧ l[k].who = who) → ∀ h ∈ l.take (k + 1), ¬ (h.sec = id ∧ h.who = who)) := Lib.hid fun hn h hh => by
        rw [List.take_succ_eq_append_getElem hkl, List.mem_append] at hh
        rcases hh with hh | hh
        · exact HNO.out h hh
        · rw [List.mem_singleton] at hh; rw [hh]; exact hn
      generalize l[k] = x at *
      obtain ⟨xa, xb, xc⟩ := x
      simp only at HYES HNXT
      clear hcc
      have c0 := hcell 0 (by omega)
      have c1 := hcell 1 (by omega)
      have c2 := hcell 2 (by omega)
      simp [hldC] at c0 c1 c2
      have hk0 : (0 : Int) ≤ (k : Int) := by omega
      have hk1 : (k : Int) < (n : Int) := by omega
      have HBP := Lib.hid (HB.out.alloc HB.out.size (.cells #[.int .i64 xa, .int .i64 xb, .int .i64 xc] 53))
      clear hcell
      by_cases h1 : xa = id
      · subst h1
        by_cases h2 : xb = who
        · subst h2
          have hr := HYES.out (by first | exact ⟨rfl, rfl⟩ | simp)
          subst hr
          go_wp2
          go_ret
          exact ⟨rfl, HBP.out⟩
        · have HN2 := Lib.hid (HNXT.out (fun h => h2 (by simpa using h)))
          have hbe : (xb == who) = false := beq_eq_false_iff_ne.2 h2
          clear HYES HNXT
          go_wp2
          go_roundw
          case rel => exact ⟨k + 1, by first | rfl | go_num, by omega, HN2, HBP⟩
          case measure => simp [RowKit.intOf]; omega
      · have HN2 := Lib.hid (HNXT.out (fun h => h1 h.1))
        have hbe : (xa == id) = false := beq_eq_false_iff_ne.2 h1
        clear HYES HNXT
        go_wp2
        go_roundw
        case rel => exact ⟨k + 1, by first | rfl | go_num, by omega, HN2, HBP⟩
        case measure => simp [RowKit.intOf]; omega
    · obtain rfl : k = n := by omega
      have hr : res = 0 := by
        rw [HRES.out]
        refine firstH_none fun h hh => HNO.out h ?_
        rw [HN.out, List.take_length]; exact hh
      subst hr
      go_wp2
      go_ret
      exact ⟨rfl, HB.out⟩

end Go.Proofs.Ytblidmkkbcobgaa

/- The register's reference: how 'set' builds a list anew, as mathematics; of no function of the program; no condition. -/
namespace Go.Proofs.Ytblidmkkbcobgaa
open Go.RowKit Go.Lib Go.Proofs

/-- A list built anew: what is there goes, what is new is put in ahead of the first greater one, or behind the end, unless it was put in already. -/
def setR (id who n : Int) : Bool → List Hld → List Hld
  | p, [] => if p then [] else [⟨id, who, n⟩]
  | p, h :: l => if h.sec = id ∧ h.who = who then setR id who n p l else if p = false ∧ (id < h.sec ∨ (h.sec = id ∧ who < h.who)) then ⟨id, who, n⟩ :: h :: setR id who n true l else h :: setR id who n p l
theorem setR_true {id who n : Int} : ∀ {l : List Hld}, (∀ h ∈ l, ¬ (h.sec = id ∧ h.who = who)) → setR id who n true l = l
  | [], _ => rfl
  | h :: l, hn => by
    unfold setR
    rw [if_neg (hn h List.mem_cons_self), if_neg (by simp), setR_true fun y hy => hn y (List.mem_cons_of_mem _ hy)]
theorem setR_false {id who n : Int} : ∀ {l : List Hld}, (∀ h ∈ l, hlt ⟨id, who, 0⟩ h) → setR id who n false l = ⟨id, who, n⟩ :: l
  | [], _ => rfl
  | h :: l, hn => by
    have h1 := hn h List.mem_cons_self
    unfold hlt at h1
    simp only at h1
    unfold setR
    rw [if_neg (by omega), if_pos ⟨rfl, by omega⟩, setR_true fun y hy => by
      have h2 := hn y (List.mem_cons_of_mem _ hy)
      unfold hlt at h2
      simp only at h2
      omega]
theorem setR_eq {id who n : Int} : ∀ {l : List Hld}, l.Pairwise hlt → setR id who (heldM l id who + n) (decide (heldM l id who + n = 0)) l = setM id who n l
  | [], _ => by
    unfold setR setM heldM sumH
    simp only [Int.zero_add]
    by_cases h0 : n = 0
    · rw [decide_eq_true h0, if_pos rfl, if_pos h0]
    · rw [decide_eq_false h0, if_neg (by simp), if_neg h0]
  | h :: l, hp => by
    have hp2 := List.pairwise_cons.1 hp
    have ih := setR_eq (id := id) (who := who) (n := n) hp2.2
    by_cases h1 : h.sec < id ∨ (h.sec = id ∧ h.who < who)
    · have e1 : isAt id who h = false := by
        unfold isAt
        rcases h1 with h1 | h1
        · rw [beq_eq_false_iff_ne.2 (show h.sec ≠ id by omega), Bool.false_and]
        · rw [beq_eq_false_iff_ne.2 (show h.who ≠ who by omega), Bool.and_false]
      have e2 : heldM (h :: l) id who = heldM l id who := by unfold heldM; simp [sumH, e1]
      rw [e2]
      unfold setR setM
      rw [if_pos h1, if_neg (by omega), if_neg (by omega), ih]
    · by_cases h2 : h.sec = id ∧ h.who = who
      · have hgt : ∀ k ∈ l, hlt ⟨id, who, 0⟩ k := fun k hk => by
          have h3 := hp2.1 k hk
          unfold hlt at h3 ⊢
          simp only
          omega
        have hno : ∀ k ∈ l, ¬ (k.sec = id ∧ k.who = who) := fun k hk => by
          have h3 := hgt k hk
          unfold hlt at h3
          simp only at h3
          omega
        have e1 : isAt id who h = true := by simp [isAt, h2.1, h2.2]
        have e2 : heldM (h :: l) id who = h.amt := by
          have h3 := heldM_low hgt
          unfold heldM at h3 ⊢
          simp [sumH, e1, h3]
        rw [e2]
        unfold setR setM
        rw [if_neg h1, if_pos h2, if_pos h2]
        by_cases h0 : h.amt + n = 0
        · rw [decide_eq_true h0, if_pos h0, setR_true hno]
        · rw [decide_eq_false h0, if_neg h0, setR_false hgt]
      · have hgt : ∀ k ∈ h :: l, hlt ⟨id, who, 0⟩ k := fun k hk => by
          rcases List.mem_cons.1 hk with rfl | hk
          · unfold hlt; simp only; omega
          · have h3 := hp2.1 k hk
            unfold hlt at h3 ⊢
            simp only
            omega
        have hno : ∀ k ∈ l, ¬ (k.sec = id ∧ k.who = who) := fun k hk => by
          have h3 := hgt k (List.mem_cons_of_mem _ hk)
          unfold hlt at h3
          simp only at h3
          omega
        have e2 := heldM_low hgt
        rw [e2, Int.zero_add]
        unfold setM
        rw [if_neg h1, if_neg h2]
        by_cases h0 : n = 0
        · rw [decide_eq_true h0, if_pos h0]
          exact setR_true fun k hk => by
            have h3 := hgt k hk
            unfold hlt at h3
            simp only at h3
            omega
        · rw [decide_eq_false h0, if_neg h0]
          exact setR_false hgt

end Go.Proofs.Ytblidmkkbcobgaa
