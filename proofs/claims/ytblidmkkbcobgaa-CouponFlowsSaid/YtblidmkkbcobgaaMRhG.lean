/- register.Find: the first security with an ID. -/
import Derived.Test.YtblidmkkbcobgaaMRhF
import Derived.Test.YtblidmkkbcobgaaMG1
import Derived.Deep.DeepCutAuto
set_option linter.unusedSimpArgs false
set_option linter.unusedVariables false
set_option linter.unusedSimpArgs false
set_option linter.unusedVariables false
namespace Go.Proofs.Ytblidmkkbcobgaa
open Go.RowKit Go.Lib Go.Proofs

def Sec.zero : Sec := ⟨0, 0, 0, 0, 0, 0, false⟩
theorem findS_snoc {id : Int} {l : List Sec} {x : Sec} (h : findS id l = none) : findS id (l ++ [x]) = if x.id = id then some x else none := by
  induction l with
  | nil => rfl
  | cons a l ih =>
    simp only [findS] at h
    split at h
    · cases h
    · rename_i ha
      simp only [List.cons_append, findS, if_neg ha]
      exact ih h
theorem findS_app {id : Int} {l k : List Sec} {x : Sec} (h : findS id l = some x) : findS id (l ++ k) = some x := by
  induction l with
  | nil => cases h
  | cons a l ih =>
    simp only [findS] at h
    simp only [List.cons_append, findS]
    split at h
    · rename_i ha; rw [if_pos ha]; exact h
    · rename_i ha; rw [if_neg ha]; exact ih h

set_option maxHeartbeats 8000000 in
theorem rxFind_any (secs : List Sec) (id : Int) (x y z : Value) (w : World) (hl : ListAt Sec.cells 7 w x secs) (hlen : secs.length ≤ 1000000) :
    Calls Try.prog 90 #[.agg #[x, y, z], .int .i64 id] w fun e w' => e = .returned (.tuple #[.agg (((findS id secs).getD Sec.zero).cells).toArray, .bool (findS id secs).isSome]) ∧ Below w.heap.size w w' := by
  obtain ⟨ao, cap, rfl, hcap, hcs⟩ := hl.shape secF
  have HCS := Lib.hid hcs
  obtain ⟨n, hn⟩ : ∃ n, n = secs.length := ⟨_, rfl⟩
  have HN := Lib.hid hn
  rw [← hn] at hcap hlen ⊢
  obtain ⟨res, hres⟩ : ∃ res, res = findS id secs := ⟨_, rfl⟩
  have HRES := Lib.hid hres
  rw [← hres]
  have HR0 := Lib.hid (alloc2_at w (.cells #[.slice ao n cap, y, z] 29) (.cells #[.int .i64 0, .int .i64 0, .int .i64 0, .int .i64 0, .int .i64 0, .int .i64 0, .bool false] 55))
  have HB0 := Lib.hid (below2 w (.cells #[.slice ao n cap, y, z] 29) (.cells #[.int .i64 0, .int .i64 0, .int .i64 0, .int .i64 0, .int .i64 0, .int .i64 0, .bool false] 55))
  clear hn hcs hl hres
  go_enter Try.func90, Try.ntmps90
  go_wp2
  go_loopw [11] (fun iv wr => ∃ k : Nat, iv = .int .i64 (k : Int) ∧ k ≤ n ∧ Hid (findS id (secs.take k) = none) ∧ Hid (Below w.heap.size w wr) ∧ Hid (wr.heap[w.heap.size + 1]? = some (.cells #[.int .i64 0, .int .i64 0, .int .i64 0, .int .i64 0, .int .i64 0, .int .i64 0, .bool false] 55 (0, 0)))) (fun iv _ => n - (RowKit.intOf iv).toNat)
  case atStart => exact ⟨0, rfl, by omega, Lib.hid rfl, HB0, HR0⟩
  case round =>
    clear HB0 HR0
    obtain ⟨k, rfl, hkn, HF, HB, HR⟩ := hrel
    by_cases hlk : k < n
    · have hkl : k < secs.length := by rw [← HN.out]; exact hlk
      obtain ⟨b, o, rfl, hb, hcc⟩ := HCS.out (by omega)
      have hcell := fun j (hj : j < 7) => (HB.out.cell (p := ⟨b, o + k * 7 + j, none⟩) hb).trans (hcc k hkl j hj)
      have HSN : Hid (findS id (secs.take (k + 1)) = if secs[k].id = id then some secs[k] else none) := Lib.hid (by
        rw [List.take_succ_eq_append_getElem hkl]; exact findS_snoc HF.out)
      have HAP : Hid (∀ s, findS id (secs.take (k + 1)) = some s → res = some s) := Lib.hid fun s hs => by
        rw [HRES.out, ← List.take_append_drop (k + 1) secs]; exact findS_app hs
      generalize secs[k] = s at *
      obtain ⟨s0, s1, s2, s3, s4, s5, s6⟩ := s
      clear hcc
      have c0 := hcell 0 (by omega)
      have c1 := hcell 1 (by omega)
      have c2 := hcell 2 (by omega)
      have c3 := hcell 3 (by omega)
      have c4 := hcell 4 (by omega)
      have c5 := hcell 5 (by omega)
      have c6 := hcell 6 (by omega)
      simp [Sec.cells] at c0 c1 c2 c3 c4 c5 c6
      clear hcell
      have hk0 : (0 : Int) ≤ (k : Int) := by omega
      have hk1 : (k : Int) < (n : Int) := by omega
      obtain ⟨W1, hW1⟩ : ∃ W1, W1 = wr.alloc (.cells #[.int .i64 s0, .int .i64 s1, .int .i64 s2, .int .i64 s3, .int .i64 s4, .int .i64 s5, .bool s6] 55) := ⟨_, rfl⟩
      have HB1 : Hid (Below w.heap.size w W1) := Lib.hid (by rw [hW1]; exact HB.out.alloc HB.out.size _)
      have HR1 : Hid (W1.heap[w.heap.size + 1]? = some (.cells #[.int .i64 0, .int .i64 0, .int .i64 0, .int .i64 0, .int .i64 0, .int .i64 0, .bool false] 55 (0, 0))) := Lib.hid (by rw [hW1]; exact obj_below HR.out (below_alloc wr _))
      by_cases hid0 : s0 = id
      · subst hid0
        have hr := HAP.out _ (HSN.out.trans (if_pos rfl))
        subst hr
        have hfr := fun j => obj_free HR1.out j
        have f0 := hfr 0
        have f1 := hfr 1
        have f2 := hfr 2
        have f3 := hfr 3
        have f4 := hfr 4
        have f5 := hfr 5
        have f6 := hfr 6
        have hrc := fun j => obj_cell HR1.out j
        have r0 := hrc 0
        have r1 := hrc 1
        have r2 := hrc 2
        have r3 := hrc 3
        have r4 := hrc 4
        have r5 := hrc 5
        have r6 := hrc 6
        simp at r0 r1 r2 r3 r4 r5 r6
        have hN : W1.heap[wr.heap.size]? = some (.cells #[.int .i64 s0, .int .i64 s1, .int .i64 s2, .int .i64 s3, .int .i64 s4, .int .i64 s5, .bool s6] 55 (0, 0)) := by rw [hW1]; exact heap_alloc_new wr _
        have n0 := obj_cell hN 0
        have n1 := obj_cell hN 1
        have n2 := obj_cell hN 2
        have n3 := obj_cell hN 3
        have n4 := obj_cell hN 4
        have n5 := obj_cell hN 5
        have n6 := obj_cell hN 6
        simp at n0 n1 n2 n3 n4 n5 n6
        clear hrc hfr hN HSN HAP
        go_upto_region 4 with fail
        rw [← hW1]
        clear hW1 c0 c1 c2 c3 c4 c5 c6
        go_wp2
        refine ret7 HR1.out rfl _ _ _ _ _ _ _ (fun F hF => ?_) rfl ⟨rfl, put7_below HB1.out (by omega) _ _ _ _ _ _ _⟩
        have q0 := obj_cell hF 0
        have q1 := obj_cell hF 1
        have q2 := obj_cell hF 2
        have q3 := obj_cell hF 3
        have q4 := obj_cell hF 4
        have q5 := obj_cell hF 5
        have q6 := obj_cell hF 6
        simp [results, Try.results90, go_sem, q0, q1, q2, q3, q4, q5, q6, Sec.cells]
      · have HSN2 : Hid (findS id (secs.take (k + 1)) = none) := Lib.hid (HSN.out.trans (if_neg hid0))
        clear HSN HAP
        go_wp2
        go_roundw
        case rel =>
          rw [← hW1]
          exact ⟨k + 1, by first | rfl | go_num, by omega, HSN2, HB1, HR1⟩
        case measure => simp [RowKit.intOf]; omega
    · obtain rfl : k = n := by omega
      have hr : res = none := by rw [HRES.out, ← HF.out, HN.out, List.take_length]
      subst hr
      have hfr := fun j => obj_free HR.out j
      have f0 := hfr 0
      have f1 := hfr 1
      have f2 := hfr 2
      have f3 := hfr 3
      have f4 := hfr 4
      have f5 := hfr 5
      have f6 := hfr 6
      have hrc := fun j => obj_cell HR.out j
      have r0 := hrc 0
      have r1 := hrc 1
      have r2 := hrc 2
      have r3 := hrc 3
      have r4 := hrc 4
      have r5 := hrc 5
      have r6 := hrc 6
      simp at r0 r1 r2 r3 r4 r5 r6
      clear hrc hfr
      go_wp2
      refine ret7 HR.out rfl _ _ _ _ _ _ _ (fun F hF => ?_) rfl ⟨rfl, put7_below HB.out (by omega) _ _ _ _ _ _ _⟩
      have q0 := obj_cell hF 0
      have q1 := obj_cell hF 1
      have q2 := obj_cell hF 2
      have q3 := obj_cell hF 3
      have q4 := obj_cell hF 4
      have q5 := obj_cell hF 5
      have q6 := obj_cell hF 6
      simp [results, Try.results90, go_sem, q0, q1, q2, q3, q4, q5, q6, Sec.cells, Sec.zero]

end Go.Proofs.Ytblidmkkbcobgaa
