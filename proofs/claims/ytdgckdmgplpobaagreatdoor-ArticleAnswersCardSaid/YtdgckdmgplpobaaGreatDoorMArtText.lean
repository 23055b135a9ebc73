/- The contract of article.Text: the text of a plain article, and nothing for any other one. -/
import Derived.Test.YtdgckdmgplpobaaGreatDoorMArtWrite
import Derived.Laws.StructEq
import Derived.Deep.QuietTactic
import Derived.BigQuiet
set_option linter.unusedSimpArgs false
set_option linter.unusedVariables false
namespace Go.Proofs.YtdgckdmgplpobaaGreatDoor
open Go.RowKit Go.Lib Go.Proofs

theorem text_neq {a b : ByteArray} (h : a ≠ b) : a.toList ≠ b.toList := by
  have := strEq_false h
  rwa [beq_eq_false_iff_ne] at this

theorem art_differ (w : World) (a b : Art) (h : a ≠ b) : (binOp .neq 24 (.agg a.cells) (.agg b.cells)).run Tryz.prog w = .ok (.bool true) w := by
  obtain ⟨kd, cd, ot, nm, yr, am, pc, nu, dy, ls, wh⟩ := a
  obtain ⟨kd', cd', ot', nm', yr', am', pc', nu', dy', ls', wh'⟩ := b
  simp only [Art.cells]
  rw [run_neq_struct]
  by_cases h0 : kd = kd'
  · subst h0
    by_cases h1 : cd = cd'
    · subst h1
      by_cases h2 : ot = ot'
      · subst h2
        by_cases h3 : nm = nm'
        · subst h3
          simp [go_sem]
          intro e1 e2 e3 e4 e5 e6 e7
          subst_vars
          exact h rfl
        · have := text_neq h3
          simp [go_sem, this]
      · have := text_neq h2
        simp [go_sem, this]
    · have := text_neq h1
      simp [go_sem, this]
  · simp [go_sem, h0]

theorem art_same (w : World) (a : Art) : (binOp .neq 24 (.agg a.cells) (.agg a.cells)).run Tryz.prog w = .ok (.bool false) w := by
  obtain ⟨kd, cd, ot, nm, yr, am, pc, nu, dy, ls, wh⟩ := a
  simp only [Art.cells]
  rw [run_neq_struct]
  simp [go_sem]

theorem write_size (f : Form) (hf : f ∈ formsL) (a : Art) (hs : ∀ p ∈ f.parts, (wordOf a p).size ≤ 100000) : (writeOf f a).size ≤ 1000000 := by
  have h7 := (forms_small f hf).2
  have h := joinL_len 32 100000 (f.parts.map fun p => (wordOf a p).data.toList) (fun x hx => by
    obtain ⟨p, hp, rfl⟩ := List.mem_map.1 hx
    have := hs p hp
    simpa using this)
  rw [List.length_map] at h
  unfold writeOf
  rw [txt_size]
  have : f.parts.length * (100000 + 1) ≤ 7 * (100000 + 1) := Nat.mul_le_mul_right _ h7
  omega

set_option maxRecDepth 100000 in
set_option maxHeartbeats 4000000 in
theorem text_any (kd : Int) (cd ot nm : ByteArray) (yr am pc nu dy ls wh : Int) (w : World) (hL : Lay w) (hbd : ArtBd ⟨kd, cd, ot, nm, yr, am, pc, nu, dy, ls, wh⟩) (hsm : ∀ f ∈ formsL, ∀ p ∈ f.parts, (wordOf ⟨kd, cd, ot, nm, yr, am, pc, nu, dy, ls, wh⟩ p).size ≤ 100000) :
    Calls Tryz.prog 12 #[.agg #[.int .i64 kd, .string cd, .string ot, .string nm, .int .i64 yr, .int .i64 am, .int .i64 pc, .int .i64 nu, .int .i64 dy, .int .i64 ls, .int .i64 wh]] w fun e w' => e = .returned (.string (textA ⟨kd, cd, ot, nm, yr, am, pc, nu, dy, ls, wh⟩)) ∧ Below w.heap.size w w' := by
  have HFO := Lib.hid (fun W => formOf_any kd cd ot nm yr am pc nu dy ls wh W)
  obtain ⟨a, ha⟩ : ∃ a : Art, a = ⟨kd, cd, ot, nm, yr, am, pc, nu, dy, ls, wh⟩ := ⟨_, rfl⟩
  have hac : a.cells = #[.int .i64 kd, .string cd, .string ot, .string nm, .int .i64 yr, .int .i64 am, .int .i64 pc, .int .i64 nu, .int .i64 dy, .int .i64 ls, .int .i64 wh] := by rw [ha]; rfl
  have HWR := Lib.hid (fun f hf W hW => write_any f hf kd cd ot nm yr am pc nu dy ls wh W hW hbd (fun p hp => Nat.le_trans (hsm f hf p hp) (by decide)))
  rw [← ha] at HFO HWR hsm ⊢
  have HSM := Lib.hid hsm
  have HL := Lib.hid hL
  have HA := Lib.hid ha
  have HAC := Lib.hid hac
  clear hL hbd hsm ha hac
  cases hfo : formOf a with
  | none =>
    have ht : textA a = ⟨#[]⟩ := by unfold textA; rw [hfo]
    rw [ht]
    rw [hfo] at HFO
    clear hfo ht
    have h63 := HL.out
    go_enter Tryz.func12, Tryz.ntmps12
    go_wp2_with fail
    refine (HFO.out _).mono ?_
    rintro e w' ⟨rfl, hb⟩
    have HB : Hid (Below w.heap.size w w') := Lib.hid (((Below.refl _ w).alloc (Nat.le_refl _) _).trans (hb.mono (by simp)))
    clear hb
    unfold noForm
    go_wp2_with fail
    go_ret
    exact ⟨rfl, by first | exact HB.out | exact (HB.out.alloc HB.out.size _) | exact ((HB.out.alloc HB.out.size _).setCell (by have := HB.out.size; show w.heap.size ≤ _; omega) _)⟩
  | some f =>
    have hf : f ∈ formsL := List.mem_of_find?_eq_some hfo
    have hsz := write_size f hf a (HSM.out f hf)
    obtain ⟨t, ht⟩ : ∃ t, t = writeOf f a := ⟨_, rfl⟩
    obtain ⟨r, hr⟩ : ∃ r, r = readOf f t := ⟨_, rfl⟩
    obtain ⟨res, hres⟩ : ∃ res, res = textA a := ⟨_, rfl⟩
    have hT : (r = some a → res = t) ∧ (r ≠ some a → res = ⟨#[]⟩) := by
      rw [hres, hr, ht]; unfold textA; rw [hfo]
      exact ⟨fun h => if_pos h, fun h => if_neg h⟩
    have HRD := Lib.hid (fun W hW => read_any f hf t W hW (by rw [ht]; exact hsz))
    have HWF := Lib.hid (fun W hW => HWR.out f hf W hW)
    rw [← ht] at HWF
    rw [← hr] at HRD
    rw [← hres]
    rw [hfo] at HFO
    have HTT := Lib.hid hT
    clear hfo hsz ht hr hres hT HWR hf
    go_enter Tryz.func12, Tryz.ntmps12
    go_wp2_with fail
    refine (HFO.out _).mono ?_
    rintro e w1 ⟨rfl, hb⟩
    unfold Form.cells
    have HB : Hid (Below w.heap.size w w1) := Lib.hid (((Below.refl _ w).alloc (Nat.le_refl _) _).trans (hb.mono (by simp)))
    have HC1 : Hid (w1.heap[w.heap.size]? = some (.cells a.cells 24 (0, 0))) := Lib.hid (by rw [hb.block _ (by simp), HAC.out]; exact heap_alloc_new w _)
    clear hb
    rw [HAC.out] at HC1
    have hlt : w.heap.size < w1.heap.size := (Array.getElem?_eq_some_iff.1 HC1.out).1
    have s0 := art_cell HC1.out 0
    simp at s0
    have s1 := art_cell HC1.out 1
    simp at s1
    have s2 := art_cell HC1.out 2
    simp at s2
    have s3 := art_cell HC1.out 3
    simp at s3
    have s4 := art_cell HC1.out 4
    simp at s4
    have s5 := art_cell HC1.out 5
    simp at s5
    have s6 := art_cell HC1.out 6
    simp at s6
    have s7 := art_cell HC1.out 7
    simp at s7
    have s8 := art_cell HC1.out 8
    simp at s8
    have s9 := art_cell HC1.out 9
    simp at s9
    have s10 := art_cell HC1.out 10
    simp at s10
    go_wp2_with fail
    refine (HWF.out _ (HL.out.below (HB.out.alloc HB.out.size _) (Nat.le_refl _))).mono ?_
    rintro e w2 ⟨rfl, hb⟩
    have hF2 : w2.heap[w1.heap.size]? = some (.cells #[.int .i64 f.kind, .int .i64 f.what, .string f.text] 60 (0, 0)) := (hb.block _ (by simp)).trans (heap_alloc_new w1 _)
    have hC2 : w2.heap[w.heap.size]? = w1.heap[w.heap.size]? := (hb.block _ (by simp; omega)).trans (Below.heap_alloc _ _ _ hlt)
    have HC2 := Lib.hid (hC2.trans HC1.out)
    have HB2 : Hid (Below w.heap.size w w2) := Lib.hid ((HB.out.alloc HB.out.size _).trans (hb.mono (by have := HB.out.size; simp; omega)))
    have f0 := art_cell hF2 0
    simp at f0
    have f1 := art_cell hF2 1
    simp at f1
    have f2 := art_cell hF2 2
    simp at f2
    clear hb hF2 hC2 s0 s1 s2 s3 s4 s5 s6 s7 s8 s9 s10
    go_wp2_with fail
    refine (HRD.out _ (HL.out.below HB2.out (Nat.le_refl _))).mono ?_
    rintro e w3 ⟨he, hb⟩
    have hlt2 : w.heap.size < w2.heap.size := (Array.getElem?_eq_some_iff.1 HC2.out).1
    have HC3 := Lib.hid ((hb.block _ hlt2).trans HC2.out)
    have HB3 : Hid (Below w.heap.size w w3) := Lib.hid (HB2.out.trans (hb.mono HB2.out.size))
    have hlt3 : w.heap.size < w3.heap.size := (Array.getElem?_eq_some_iff.1 HC3.out).1
    have u0 := art_cell HC3.out 0
    simp at u0
    have u1 := art_cell HC3.out 1
    simp at u1
    have u2 := art_cell HC3.out 2
    simp at u2
    have u3 := art_cell HC3.out 3
    simp at u3
    have u4 := art_cell HC3.out 4
    simp at u4
    have u5 := art_cell HC3.out 5
    simp at u5
    have u6 := art_cell HC3.out 6
    simp at u6
    have u7 := art_cell HC3.out 7
    simp at u7
    have u8 := art_cell HC3.out 8
    simp at u8
    have u9 := art_cell HC3.out 9
    simp at u9
    have u10 := art_cell HC3.out 10
    simp at u10
    clear hb f0 f1 f2
    cases r with
    | none =>
      have he' : e = .returned (.tuple #[.agg Art.none.cells, .bool false]) := he
      subst he'
      have hres : res = ⟨#[]⟩ := HTT.out.2 (by simp)
      subst hres
      simp only [Art.cells, Art.none]
      go_wp2_with fail
      go_ret
      exact ⟨rfl, HB3.out.alloc HB3.out.size _⟩
    | some b =>
      have he' : e = .returned (.tuple #[.agg b.cells, .bool true]) := he
      subst he'
      clear he
      by_cases hba : b = a
      · have hres : res = t := HTT.out.1 (by rw [hba])
        have hq : ∀ W, (binOp .neq 24 (.agg b.cells) (.agg #[.int .i64 kd, .string cd, .string ot, .string nm, .int .i64 yr, .int .i64 am, .int .i64 pc, .int .i64 nu, .int .i64 dy, .int .i64 ls, .int .i64 wh])).run Tryz.prog W = .ok (.bool false) W := fun W => by rw [← HAC.out, hba]; exact art_same W a
        subst hres
        obtain ⟨bkd, bcd, bot, bnm, byr, bam, bpc, bnu, bdy, bls, bwh⟩ := b
        simp only [Art.cells] at hq ⊢
        clear hba
        go_wp2_with fail
        go_ret
        exact ⟨rfl, HB3.out.alloc HB3.out.size _⟩
      · have hres : res = ⟨#[]⟩ := HTT.out.2 (fun e => hba (Option.some.inj e))
        have hq : ∀ W, (binOp .neq 24 (.agg b.cells) (.agg #[.int .i64 kd, .string cd, .string ot, .string nm, .int .i64 yr, .int .i64 am, .int .i64 pc, .int .i64 nu, .int .i64 dy, .int .i64 ls, .int .i64 wh])).run Tryz.prog W = .ok (.bool true) W := fun W => by rw [← HAC.out]; exact art_differ W b a hba
        subst hres
        obtain ⟨bkd, bcd, bot, bnm, byr, bam, bpc, bnu, bdy, bls, bwh⟩ := b
        simp only [Art.cells] at hq ⊢
        clear hba
        go_wp2_with fail
        go_ret
        exact ⟨rfl, HB3.out.alloc HB3.out.size _⟩

end Go.Proofs.YtdgckdmgplpobaaGreatDoor
