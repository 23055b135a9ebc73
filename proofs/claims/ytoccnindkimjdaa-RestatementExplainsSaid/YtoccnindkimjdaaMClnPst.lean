/- slices.Clone at a struct of 8 cells: a new row of the same elements. -/
import Derived.Test.YtoccnindkimjdaaMG1
import Derived.Test.YtoccnindkimjdaaMOwnO
set_option linter.unusedSimpArgs false
set_option linter.unusedVariables false
set_option linter.unusedSimpArgs false
set_option linter.unusedVariables false
namespace Go.Proofs.Ytoccnindkimjdaa
open Go.RowKit Go.Lib Go.Proofs

theorem Try.infoClnPst : (Try.prog.info? 55).map (fun i => (i.zero, i.size, i.bytes)) = some (some (.agg #[.int .i64 0, .int .i64 0, .int .i64 0, .int .i64 0, .int .i64 0, .int .i64 0, .int .i64 0, .int .i64 0]), 8, 64) := by kernel_rfl
set_option maxHeartbeats 2000000 in
theorem clonePst_any {α : Type} (f : α → List Value) (hf : Fields f 8) (l : List α) (v : Value) (w : World) (h : ListAt f 8 w v l) (hlen : l.length ≤ 1000000) :
    Calls Try.prog 57 #[v] w fun e w' => ∃ v', e = .returned v' ∧ w'.ownsRow w.heap.size 55 8 v' l.length (cellsL f l) ∧ Below w.heap.size w w' := by
  obtain ⟨i0, hi0, hz0, hz1, hz2⟩ := info_parts Try.infoClnPst
  obtain ⟨ao, cap, rfl, hnews⟩ := h.news hf
  have HN := Lib.hid (fun W (hW : Below w.heap.size w W) => newsOf hf (h.below hW))
  have HL := Lib.hid (cellsL_len hf l)
  have HO := Lib.hid (cellsL_one hf l)
  obtain ⟨n, hn⟩ : ∃ n, n = l.length := ⟨_, rfl⟩
  rw [← hn] at hlen HN HL ⊢
  have q22 : ∀ (w : World) (a : Option Addr) (n c n' c' : Nat), (binOp .eql 25 (.slice a n c) (.slice none n' c')).run Try.prog w = .ok (.bool a.isNone) w := fun w a n c n' c' => Lib.run_eql_slice_nil w _ _ a n c n' c' Try.underlying25
  have HLN : Hid (ao = none → l = []) := Lib.hid (fun he => by
    rcases hnews with h0 | ⟨ad, h1, _⟩
    · exact List.length_eq_zero_iff.1 h0
    · rw [he] at h1; cases h1)
  have HN0 : Hid (n = l.length) := Lib.hid hn
  clear hnews h hn
  cases ao with
  | none =>
    obtain rfl := HLN.out rfl
    obtain rfl : n = 0 := HN0.out
    go_enter Try.func57, Try.ntmps57
    go_wp2
    go_ret
    exact ⟨_, rfl, World.ownsRow_nil _ _ _ _, Below.refl _ _⟩
  | some ad =>
    obtain ⟨b, o, el⟩ := ad
    have HB := Lib.hid (below_alloc w (.cells #[] 55))
    go_enter Try.func57, Try.ntmps57
    go_wp2_with (at_builtin; refine wpList_ownO _ rfl _ _ 25 rfl w.heap.size 55 i0 (.agg #[.int .i64 0, .int .i64 0, .int .i64 0, .int .i64 0, .int .i64 0, .int .i64 0, .int .i64 0, .int .i64 0]) 8 64 Try.underlying25 hi0 hz0 hz1 hz2 rfl (by decide) (.slice (some ⟨w.heap.size, 0, none⟩) 0 0) 0 [] rfl (World.ownsRow_made w #[] 0 (Nat.le_refl _) (Nat.zero_le _) rfl) (some ⟨b, o, el⟩) n cap (cellsL f l) rfl HL.out (HN.out _ HB.out) HO.out (by unfold maxLen; omega) (by omega) (by simp) ?_; intro v' w4 hown4 hgr4)
    have hB : Below w.heap.size w w4 := HB.out.grown hgr4 (by simp) (by intro k hk; simp [Value.ownBlock] at hk; omega)
    have HO4 := Lib.hid hown4
    have HB4 := Lib.hid hB
    clear hown4 hB hgr4
    go_wp2
    go_ret
    refine ⟨_, rfl, ?_, HB4.out⟩
    have := HO4.out
    rwa [Nat.zero_add, List.nil_append] at this

end Go.Proofs.Ytoccnindkimjdaa
