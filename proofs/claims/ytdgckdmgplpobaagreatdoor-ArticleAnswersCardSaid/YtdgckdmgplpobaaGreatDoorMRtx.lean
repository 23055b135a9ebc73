/- The contract of the article's reference's Text, of any article: its text if it is plain, nothing otherwise. -/
import Derived.Test.YtdgckdmgplpobaaGreatDoorMRtxA
import Derived.Test.YtdgckdmgplpobaaGreatDoorMRtxB
import Derived.Test.YtdgckdmgplpobaaGreatDoorMRtxC
set_option linter.unusedSimpArgs false
set_option linter.unusedVariables false
namespace Go.Proofs.YtdgckdmgplpobaaGreatDoor
open Go.RowKit Go.Lib Go.Proofs

theorem rtx_plain (a : Art) (h : textA a ≠ ⟨#[]⟩) (w : World) (hL : Lay w) : Calls Tryz.prog 13 #[.agg a.cells] w fun e w' => e = .returned (.string (textA a)) ∧ Below w.heap.size w w' := by
  obtain ⟨f, hf, _, _, _, hok, _, he⟩ := plain_parts h
  clear h
  simp only [formsL, List.mem_cons, List.mem_nil_iff, or_false] at hf
  rcases hf with rfl | rfl | rfl | rfl | rfl | rfl | rfl | rfl | rfl | rfl | rfl | rfl
  all_goals
    simp only [litW, List.foldl_cons, List.foldl_nil, setOf, Art.none, List.mem_cons, List.mem_nil_iff, or_false, forall_eq_or_imp, forall_eq, okP, true_and] at hok he
    rw [← he]
    simp only [Art.cells]
  · exact rtx_years _ _ hok.1 hok.2 w hL
  · exact rtx_heading _ _ hok.1 hok.2 w hL
  · exact rtx_line _ _ _ hok.1 hok.2.1 hok.2.2 w hL
  · exact rtx_ceiling _ _ _ hok.1 hok.2.1 hok.2.2 w hL
  · exact rtx_floor _ _ _ hok.1 hok.2.1 hok.2.2 w hL
  · exact rtx_earmark _ _ _ hok.2.1 hok.1 hok.2.2 w hL
  · exact rtx_wait _ _ _ _ hok.1 hok.2.1 hok.2.2.1 hok.2.2.2 w hL
  · exact rtx_reach _ _ _ _ _ hok.1 hok.2.2.2.1 hok.2.1 hok.2.2.1 hok.2.2.2.2 w hL
  · exact rtx_rule _ _ _ _ hok.2.1 hok.2.2.1 hok.1 hok.2.2.2 w hL
  · exact rtx_aline _ _ _ _ _ hok.2.2.1 hok.2.2.2.1 hok.2.2.2.2 hok.1 hok.2.1 w hL
  · obtain ⟨h1, h2, h3, h4, h5⟩ := hok
    generalize a.amount = am at *
    rcases h5 with rfl | h5
    · exact rtx_aceilingN _ _ _ _ h3 h4 h1 h2 w hL
    · exact rtx_aceilingA _ _ _ _ _ h3 h4 h5 h1 h2 w hL
  · exact rtx_afloor _ _ _ _ _ hok.2.2.1 hok.2.2.2.1 hok.2.2.2.2 hok.1 hok.2.1 w hL

set_option maxRecDepth 100000 in
set_option maxHeartbeats 4000000 in
theorem rtext_any (kd : Int) (cd ot nm : ByteArray) (yr am pc nu dy ls wh : Int) (z1 : cd.size ≤ 1000000) (z2 : ot.size ≤ 1000000) (z3 : nm.size ≤ 1000000) (w : World) (hL : Lay w) :
    Calls Tryz.prog 13 #[.agg #[.int .i64 kd, .string cd, .string ot, .string nm, .int .i64 yr, .int .i64 am, .int .i64 pc, .int .i64 nu, .int .i64 dy, .int .i64 ls, .int .i64 wh]] w fun e w' => e = .returned (.string (textA ⟨kd, cd, ot, nm, yr, am, pc, nu, dy, ls, wh⟩)) ∧ Below w.heap.size w w' := by
  by_cases h : textA ⟨kd, cd, ot, nm, yr, am, pc, nu, dy, ls, wh⟩ = ⟨#[]⟩
  · have HP := Lib.hid (fun W => rplain_any kd cd ot nm yr am pc nu dy ls wh z1 z2 z3 W)
    rw [plainB_false h] at HP
    rw [h]
    clear h
    go_enter Tryz.func13, Tryz.ntmps13
    go_wp2_with fail
    refine (HP.out _).mono ?_
    rintro e w' ⟨rfl, hb⟩
    have HB := Lib.hid ((below_alloc w _).trans (hb.mono (by simp)))
    clear hb
    go_wp2_with fail
    go_ret
    exact ⟨rfl, HB.out⟩
  · exact rtx_plain _ h w hL

end Go.Proofs.YtdgckdmgplpobaaGreatDoor
