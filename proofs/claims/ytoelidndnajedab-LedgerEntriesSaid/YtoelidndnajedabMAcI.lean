/- Contracts of the account's own Open and Balance, and of the reference's Open; accounts beside a source. -/
import Derived.Test.YtoelidndnajedabMAcZ
import Derived.Test.YtoelidndnajedabMG2
import Derived.Test.YtoelidndnajedabMAcP
import Derived.Test.YtoelidndnajedabMAcO
set_option linter.unusedSimpArgs false
set_option linter.unusedVariables false
set_option linter.unusedSimpArgs false
set_option linter.unusedVariables false
namespace Go.Proofs.Ytoelidndnajedab
open Go.RowKit Go.Lib Go.Proofs

/-- A row whose first two cells are numbers does not lie in a source's own block. -/
theorem not_src {w : World} {tb b o : Nat} {x y : Int} (hs : SrcAt w tb) (h0 : w.cell? ⟨b, o, none⟩ = some (.int .i64 x)) (h1 : w.cell? ⟨b, o + 1, none⟩ = some (.int .i64 y)) : b ≠ tb := by
  rintro rfl
  obtain ⟨ao, n, cap, k, h, _⟩ := hs
  rw [obj_cell h] at h0 h1
  match o with
  | 0 => simp at h0
  | o + 1 => simp at h1
theorem SubsAt.turn {w w' : World} {v : Value} {l : List SubA} {tb : Nat} (h : SubsAt w v l) (hs : SrcAt w tb) (hg : w.grownBy w' (some tb)) : SubsAt w' v l := by
  have h' := h
  rcases h.open with ⟨rfl, ao, cap, rfl⟩ | ⟨hpos, b, o, cap, rfl, hcap, hb, hc⟩
  · obtain ⟨h1, ao', cap', h2, h3, h4⟩ := h'
    exact ⟨h1, ao', cap', h2, h3, Or.inl rfl⟩
  · obtain ⟨h1, ao', cap', h2, h3, h4⟩ := h'
    refine ⟨h1, ao', cap', h2, h3, ?_⟩
    injection h2 with e1 _ e3
    subst e1
    rcases h4 with h4 | ⟨b', o', e, hb', hc'⟩
    · exact Or.inl h4
    · injection e with e
      injection e with e4 e5 _
      subst e4 e5
      have hne := not_src hs (hc 0 hpos).1 (hc 0 hpos).2
      refine Or.inr ⟨b, o, rfl, Nat.lt_of_lt_of_le hb' hg.size, fun j hj => ?_⟩
      rw [← hc' j hj]
      unfold World.cell?
      simp only
      rw [hg.block b hb' (by simp [hne])]
theorem EntsAt.turn {w w' : World} {v : Value} {l : List Ent} {tb : Nat} (h : EntsAt w v l) (hs : SrcAt w tb) (hg : w.grownBy w' (some tb)) : EntsAt w' v l := by
  have h' := h
  rcases h.open with ⟨rfl, ao, cap, rfl⟩ | ⟨hpos, b, o, cap, rfl, hcap, hb, hc⟩
  · obtain ⟨h1, ao', cap', h2, h3, h4⟩ := h'
    exact ⟨h1, ao', cap', h2, h3, Or.inl rfl⟩
  · obtain ⟨h1, ao', cap', h2, h3, h4⟩ := h'
    refine ⟨h1, ao', cap', h2, h3, ?_⟩
    injection h2 with e1 _ e3
    subst e1
    rcases h4 with h4 | ⟨b', o', e, hb', hc'⟩
    · exact Or.inl h4
    · injection e with e
      injection e with e4 e5 _
      subst e4 e5
      have hne := not_src hs (hc 0 hpos 0 (by omega)) (hc 0 hpos 1 (by omega))
      refine Or.inr ⟨b, o, rfl, Nat.lt_of_lt_of_le hb' hg.size, fun j hj => ?_⟩
      rw [← hc' j hj]
      unfold World.cell?
      simp only
      rw [hg.block b hb' (by simp [hne])]

theorem nil_ents (w : World) (ao : Option Addr) (cap : Nat) : EntsAt w (.slice ao 0 cap) [] := ents_list.2 (nil_listAt _ _ _ _ _)

set_option maxRecDepth 100000 in
set_option maxHeartbeats 4000000 in
theorem raOpen_any (v : Value) (ids : List Int) (cr : Int) (w : World) (h : NumsAt w v ids) (hlen : ids.length ≤ 1000000) : Calls Try.prog 42 #[v, .int .i64 cr] w (PostPost w (openM ids cr)) := by
  obtain ⟨i0, hi0, hz0, hz1, hz2⟩ := infoU_parts
  have HB0 := Lib.hid (below_alloc w (.cells #[.int .i64 0, .slice none 0 0, .slice none 0 0] 56))
  have HR0 := Lib.hid (heap_alloc_new w (.cells #[.int .i64 0, .slice none 0 0, .slice none 0 0] 56))
  have HV : Hid (∀ W, Calls Try.prog 56 #[.int .i64 cr] W fun e w' => e = .returned (.bool (amtB cr)) ∧ W = w') := Lib.hid (fun W => by
    exact (rvValid_any cr W).mono fun e w' h => h)
  obtain ⟨r, hr⟩ : ∃ r, r = openM ids cr := ⟨_, rfl⟩
  have HR := Lib.hid hr
  unfold openM at HR
  rw [← hr]
  obtain ⟨ao, cap, rfl, hcap, hcs⟩ := h.shape
  have HCS := Lib.hid hcs
  obtain ⟨n, hn⟩ : ∃ n, n = ids.length := ⟨_, rfl⟩
  have HN := Lib.hid hn
  rw [← hn] at HR hcap hlen ⊢
  clear hr h hn hcs
  cases hv : amtB cr with
  | false =>
    rw [hv] at HV HR
    obtain rfl : r = .error 2 := HR.out.trans (if_pos rfl)
    clear hv HR
    go_enter Try.func42, Try.ntmps42
    go_wp2_with (go_at_call 56; refine (HV.out _).mono ?_; rintro e w' ⟨rfl, rfl⟩)
    exact retB HR0.out (fun F hF => by
      have q0 := obj_cell hF 0
      have q1 := obj_cell hF 1
      have q2 := obj_cell hF 2
      simp [results, Try.results42, go_sem, q0, q1, q2]) rfl ⟨rfl, HB0.out⟩
  | true =>
  rw [hv] at HV HR
  have HR1 := Lib.hid (HR.out.trans (if_neg (by decide)))
  clear hv HR
  by_cases h20 : 20 < n
  · obtain rfl : r = .error 3 := HR1.out.trans (if_pos h20)
    have h20' : (20 : Int) < (n : Int) := by omega
    clear HR1
    go_enter Try.func42, Try.ntmps42
    go_wp2_with (go_at_call 56; refine (HV.out _).mono ?_; rintro e w' ⟨rfl, rfl⟩)
    exact retB HR0.out (fun F hF => by
      have q0 := obj_cell hF 0
      have q1 := obj_cell hF 1
      have q2 := obj_cell hF 2
      simp [results, Try.results42, go_sem, q0, q1, q2]) rfl ⟨rfl, HB0.out⟩
  have h20' : ¬ (20 : Int) < (n : Int) := by omega
  have HR2 := Lib.hid (HR1.out.trans (if_neg h20))
  clear HR1 h20
  have HNIL : Hid (w.ownsRow (w.heap.size + 1 + 1) 62 2 (.slice none 0 0) 0 (cellsU (zerosV (ids.take 0)))) := Lib.hid (World.ownsRow_nil _ _ _ _)
  have HA0 := Lib.hid (alloc1_at w (.cells #[.int .i64 0, .slice none 0 0, .slice none 0 0] 56) (.cells #[.int .i64 cr, .slice none 0 0, .slice none 0 0] 56))
  have HA1 := Lib.hid (alloc2_at w (.cells #[.int .i64 0, .slice none 0 0, .slice none 0 0] 56) (.cells #[.int .i64 cr, .slice none 0 0, .slice none 0 0] 56))
  have HW2 := Lib.hid (below2 w (.cells #[.int .i64 0, .slice none 0 0, .slice none 0 0] 56) (.cells #[.int .i64 cr, .slice none 0 0, .slice none 0 0] 56))
  have HO2 := Lib.hid ((HNIL.out.alloc (.cells #[.int .i64 0, .slice none 0 0, .slice none 0 0] 56)).alloc (.cells #[.int .i64 cr, .slice none 0 0, .slice none 0 0] 56))
  go_enter Try.func42, Try.ntmps42
  go_wp2_with (go_at_call 56; refine (HV.out _).mono ?_; rintro e w' ⟨rfl, rfl⟩)
  go_loopw [21] (fun i wr => ∃ (k : Nat) (u : Value), i = .int .i64 k ∧ k ≤ n ∧ Hid (wr.heap[w.heap.size]? = some (.cells #[.int .i64 0, .slice none 0 0, .slice none 0 0] 56 (0, 0))) ∧ Hid (wr.heap[w.heap.size + 1]? = some (.cells #[.int .i64 cr, u, .slice none 0 0] 56 (0, 0))) ∧ Hid (wr.ownsRow (w.heap.size + 1 + 1) 62 2 u k (cellsU (zerosV (ids.take k)))) ∧ Hid (Below w.heap.size w wr)) (fun i _ => n - (RowKit.intOf i).toNat)
  case atStart => exact ⟨0, _, rfl, by omega, HA0, HA1, HO2, HW2⟩
  case round =>
    obtain ⟨k, u, rfl, hkn, HX, HY, HO, HB⟩ := hrel
    obtain ⟨au, cu, rfl, -, -⟩ := owns_gen HO.out
    by_cases hlt : k < n
    · have hkl : k < ids.length := by rw [← HN.out]; exact hlt
      obtain ⟨b, o, rfl, hb, hcc⟩ := HCS.out (by omega)
      have c0 : wr.cell? ⟨b, o + k, none⟩ = some (.int .i64 (ids.getD k 0)) := (HB.out.cell (p := ⟨b, o + k, none⟩) hb).trans (hcc k hkl)
      have hk0 : (0 : Int) ≤ (k : Int) := by omega
      have hk1 : (k : Int) < (n : Int) := by omega
      have HST := Lib.hid (zerosV_take_snoc hkl)
      generalize ids.getD k 0 = x at *
      have hy := HY.out
      have y1 := obj_cell hy 1
      simp at y1
      have HSZ : Hid (w.heap.size + 1 + 1 ≤ wr.heap.size) := Lib.hid (obj_lt hy)
      clear hcc hy
      go_wp2_with (at_builtin; refine wpList_append_own _ rfl _ _ 53 rfl (w.heap.size + 1 + 1) 62 i0 (.agg #[.int .i64 0, .int .i64 0]) 2 16 Try.underlying53 hi0 hz0 hz1 hz2 rfl (by decide) _ _ _ rfl (HO.out.alloc _) ⟨wr.heap.size, 0, none⟩ 1 1 [.int .i64 x, .int .i64 0] rfl rfl (sub_new _ _ _ _ _ rfl) (sub_one _ _) (by unfold maxLen; omega) (by omega) (by have := HSZ.out; simp; omega) ?_; intro v' w5 hown5 hgr5 _; (obtain ⟨a5, c5, rfl, _, _⟩ := owns_gen hown5); (have hy5 : w5.heap[w.heap.size + 1]? = some (.cells #[.int .i64 cr, .slice au k cu, .slice none 0 0] 56 (0, 0)) := (hgr5.block _ (by have := HSZ.out; simp; omega) (by intro e; have := ownBlock_le HO.out _ e.symm; omega)).trans (obj_below HY.out (below_alloc wr _))); (have z1 := obj_cell hy5 1); (have g1 := obj_free hy5 1); (simp at z1); (have HY5 := Lib.hid hy5); clear hy5)
      have HX5 : Hid (w5.heap[w.heap.size]? = some (.cells #[.int .i64 0, .slice none 0 0, .slice none 0 0] 56 (0, 0))) := Lib.hid ((hgr5.block _ (by have := HSZ.out; simp; omega) (by intro e; have := ownBlock_le HO.out _ e.symm; omega)).trans (obj_below HX.out (below_alloc wr _)))
      have hB5 : Below w.heap.size w w5 := (HB.out.alloc HB.out.size _).grown hgr5 (by have := HB.out.size; simp; omega) fun j e => by have := ownBlock_le HO.out j e; omega
      have HO5 := Lib.hid hown5
      have HB6 : Hid (Below w.heap.size w (w5.setCell ⟨w.heap.size + 1, 1, none⟩ (.slice a5 (k + 1) c5))) := Lib.hid (hB5.setCell (by show w.heap.size ≤ w.heap.size + 1; omega) _)
      have HO6 : Hid ((w5.setCell ⟨w.heap.size + 1, 1, none⟩ (.slice a5 (k + 1) c5)).ownsRow (w.heap.size + 1 + 1) 62 2 (.slice a5 (k + 1) c5) (k + 1) (cellsU (zerosV (ids.take (k + 1))))) := Lib.hid (by
        rw [HST.out]
        exact HO5.out.kept (setCell_grown 1 _) (ownBlock_ne HO5.out _ (by omega)))
      have HY6 : Hid ((w5.setCell ⟨w.heap.size + 1, 1, none⟩ (.slice a5 (k + 1) c5)).heap[w.heap.size + 1]? = some (.cells #[.int .i64 cr, (.slice a5 (k + 1) c5), .slice none 0 0] 56 (0, 0))) := Lib.hid (by
        have := obj_set HY5.out 1 (.slice a5 (k + 1) c5)
        simpa using this)
      have HX6 : Hid ((w5.setCell ⟨w.heap.size + 1, 1, none⟩ (.slice a5 (k + 1) c5)).heap[w.heap.size]? = some (.cells #[.int .i64 0, .slice none 0 0, .slice none 0 0] 56 (0, 0))) := Lib.hid ((Below.heap_setCell w5 _ _ _ (by show w.heap.size ≠ w.heap.size + 1; omega)).trans HX5.out)
      clear hown5 hB5 hgr5
      go_wp2
      go_roundw
      case rel => exact ⟨k + 1, (.slice a5 (k + 1) c5), by first | rfl | go_num, by omega, HX6, HY6, HO6, HB6⟩
      case measure => simp [RowKit.intOf]; omega
    · obtain rfl : k = n := by omega
      have hfull : ids.take k = ids := by rw [HN.out, List.take_length]
      rw [hfull] at HO
      have HS : Hid (SubsAt wr (.slice au k cu) (zerosV ids)) := Lib.hid (by unfold SubsAt; rw [zerosV_len, ← HN.out]; exact RowG.owns HO.out)
      have HPL := Lib.hid (raplain_any ⟨cr, zerosV ids, []⟩ (.slice au k cu) (.slice none 0 0) wr HS.out (by simp only [zerosV_len]; rw [← HN.out]; exact hlen))
      have hy := HY.out
      have y0 := obj_cell hy 0
      have y1 := obj_cell hy 1
      have y2 := obj_cell hy 2
      simp at y0 y1 y2
      clear hy hfull
      have HR3 : Hid (r = if plainM ⟨cr, zerosV ids, []⟩ = true then .ok ⟨cr, zerosV ids, []⟩ else .error 60) := Lib.hid HR2.out
      clear HR2
      generalize plainM ⟨cr, zerosV ids, []⟩ = p at *
      go_wp2_with fail
      refine (HPL.out).mono ?_
      rintro e w6 ⟨rfl, hb6⟩
      have HX6 := Lib.hid (obj_below HX.out hb6)
      have hy6 := obj_below HY.out hb6
      have HB6 := Lib.hid (HB.out.trans (hb6.mono HB.out.size))
      have HO6 := Lib.hid (ownsRow_below HO.out hb6)
      have z0 := obj_cell hy6 0
      have z1 := obj_cell hy6 1
      have z2 := obj_cell hy6 2
      simp at z0 z1 z2
      clear hb6 hy6 y0 y1 y2
      have hrb := HX6.out
      have s0 := obj_cell hrb 0
      have f0 := obj_free hrb 0
      have s1 := obj_cell hrb 1
      have f1 := obj_free hrb 1
      have s2 := obj_cell hrb 2
      have f2 := obj_free hrb 2
      simp at s0 s1 s2
      clear hrb
      cases p with
      | false =>
        obtain rfl : r = .error 60 := HR3.out.trans (if_neg (by decide))
        go_wp2
        show bodyPost Try.prog Try.f42 _ Exit.ret _ (put3 w6 w.heap.size (.int .i64 0) (.slice none 0 0) (.slice none 0 0))
        exact ret3 HX6.out rfl _ _ _ (fun F hF => by
          have q0 := obj_cell hF 0
          have q1 := obj_cell hF 1
          have q2 := obj_cell hF 2
          simp [results, Try.results42, go_sem, q0, q1, q2]) rfl ⟨rfl, put3_below HB6.out (Nat.le_refl _) _ _ _⟩
      | true =>
        obtain rfl : r = .ok ⟨cr, zerosV ids, []⟩ := HR3.out.trans (if_pos rfl)
        go_wp2
        show bodyPost Try.prog Try.f42 _ Exit.ret _ (put3 w6 w.heap.size (.int .i64 cr) (.slice au k cu) (.slice none 0 0))
        exact ret3 HX6.out rfl _ _ _ (fun F hF => by
          have q0 := obj_cell hF 0
          have q1 := obj_cell hF 1
          have q2 := obj_cell hF 2
          simp [results, Try.results42, go_sem, q0, q1, q2]) rfl ⟨.slice au k cu, .slice none 0 0, rfl, by unfold SubsAt; rw [zerosV_len, ← HN.out]; exact RowG.owns (HO6.out.kept (put3_grown w6 _ _ _ _) (ownBlock_ne HO6.out _ (by omega))), nil_ents _ _ _, put3_below HB6.out (Nat.le_refl _) _ _ _⟩

end Go.Proofs.Ytoelidndnajedab
