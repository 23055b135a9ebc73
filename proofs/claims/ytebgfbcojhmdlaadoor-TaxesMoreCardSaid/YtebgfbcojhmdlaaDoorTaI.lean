/- slices.insertionSortCmpFunc on a row of flows. -/
import Derived.Test.YtebgfbcojhmdlaaDoorTaL
import Derived.Shelf.RegionOpenPlain
import Derived.Deep.RegionHeld3
import Derived.Deep.DeepCutAuto
set_option linter.unusedSimpArgs false
set_option linter.unusedVariables false
namespace Go.Proofs.YtebgfbcojhmdlaaDoor
open Go.RowKit Go.Lib Go.Proofs


/-- What a sort hands back: the row holds the same flows, in order. -/
def SrtPost (l : List Flw) (v : Value) (base : Nat) (w : World) (e : Ending) (w' : World) : Prop :=
  e = .returned (.tuple #[]) ∧ ∃ l' : List Flw, l'.Perm l ∧ l'.Pairwise flowLe ∧ w'.ownsRow base 50 4 v l.length (cellsL flowC l') ∧ Below base w w'

set_option maxHeartbeats 8000000 in
theorem insFlow_any (l : List Flw) (hlen : l.length ≤ 1000) (v : Value) (base : Nat) (w : World) (hown : w.ownsRow base 50 4 v l.length (cellsL flowC l)) (hbase : base ≤ w.heap.size) :
    Calls Tryd.prog 47 #[v, .int .i64 0, .int .i64 l.length, .func (.func 35) #[] #[]] w (SrtPost l v base w) := by
  have eg := enters_of Tryd.func35 (by kernel_rfl) rfl
  obtain ⟨n, hn⟩ : ∃ n, n = l.length := ⟨_, rfl⟩
  have HN := Lib.hid hn
  have HBASE := Lib.hid hbase
  unfold SrtPost
  rw [← hn] at hown hlen ⊢
  by_cases hz : n = 0
  · subst hz
    have hl0 : l = [] := List.length_eq_zero_iff.1 hn.symm
    have HL0 := Lib.hid hl0
    have HO := Lib.hid hown
    clear hn hl0 hown hbase
    go_enter Tryd.func47, Tryd.ntmps47
    go_wp2
    go_loop [8] (fun i => i = .int .i64 1) (fun _ => 0)
    case atStart => rfl
    case round =>
      subst hrel
      go_wp2
      go_end0
      exact ⟨rfl, [], by rw [HL0.out], List.Pairwise.nil, by have := HO.out; rw [HL0.out] at this; exact this, Below.refl _ _⟩
  · obtain ⟨g, cap, rfl, hg, hcap⟩ := owns_shape hown (by omega)
    have HG := Lib.hid hg
    have HO := Lib.hid hown
    have HCM := Lib.hid taflowsC_any
    have mixed : Tryd.prog.follows Departure.mixedOrders = true := by kernel_rfl
    have hn1 : 1 ≤ n := by omega
    have hn64 : (n : Int) ≤ 1000 := by omega
    clear hn hown hbase hg hz
    go_enter Tryd.func47, Tryd.ntmps47
    go_wp2
    go_loopw [8] (fun iv wr => ∃ (i : Nat) (P C : List Flw), iv = .int .i64 (i : Int) ∧ 1 ≤ i ∧ i ≤ n ∧ Hid (P.length = i) ∧ Hid ((P ++ C).Perm l) ∧ Hid (P.Pairwise flowLe) ∧ Hid (wr.ownsRow base 50 4 (.slice (some ⟨g, 0, none⟩) n cap) n (cellsL flowC (P ++ C))) ∧ Hid (Below base w wr)) (fun iv _ => n - (RowKit.intOf iv).toNat)
    case atStart =>
      refine ⟨1, l.take 1, l.drop 1, rfl, by omega, hn1, Lib.hid ?_, Lib.hid (by rw [List.take_append_drop]), Lib.hid ?_, Lib.hid (by rw [List.take_append_drop]; exact HO.out), Lib.hid (Below.refl _ _)⟩
      · have := HN.out; simp; omega
      · match l with
        | [] => exact List.Pairwise.nil
        | [a] => exact List.pairwise_singleton _ _
        | a :: b :: r => exact List.pairwise_singleton _ _
    case round =>
      clear HO
      obtain ⟨i, P, C, rfl, hi1, hin, HP, HPE, HSO, HO, HB⟩ := hrel
      by_cases hlt : i < n
      · obtain ⟨x, C', rfl⟩ : ∃ x C', C = x :: C' := by
          match C with
          | [] => have := HPE.out.length_eq; have := HP.out; have := HN.out; simp at *; omega
          | x :: C' => exact ⟨x, C', rfl⟩
        have hii : (i : Int) < (n : Int) := by omega
        have hi0 : (0 : Int) ≤ (i : Int) := by omega
        go_wp2
        go_loopw [9] (fun jv wx => ∃ (j : Nat) (A B : List Flw), jv = .int .i64 (j : Int) ∧ j ≤ i ∧ Hid (A.length = j) ∧ Hid (A.length + B.length = i) ∧ Hid ((A ++ B).Pairwise flowLe) ∧ Hid (∀ b ∈ B, flowLe x b) ∧ Hid ((A ++ x :: (B ++ C')).Perm l) ∧ Hid (wx.ownsRow base 50 4 (.slice (some ⟨g, 0, none⟩) n cap) n (cellsL flowC (A ++ x :: (B ++ C')))) ∧ Hid (Below base w wx)) (fun jv _ => (RowKit.intOf jv).toNat)
        case atStart => exact ⟨i, P, [], rfl, Nat.le_refl _, HP, Lib.hid (by simp [HP.out]), Lib.hid (by simpa using HSO.out), Lib.hid (by simp), Lib.hid (by simpa using HPE.out), Lib.hid (by simpa using HO.out), HB⟩
        case round =>
          clear HP HPE HSO HO HB
          obtain ⟨j, A, B, rfl, hji, HA, HAB, HSO, HXB, HPE, HO, HB⟩ := hrel
          by_cases hj : j = 0
          · subst hj
            have hA0 : A = [] := List.length_eq_zero_iff.1 HA.out
            subst hA0
            go_wp2_with fail
            go_big_region_o
            all_goals go_wp2
            go_roundw
            case rel => exact ⟨i + 1, x :: B, C', by first | rfl | go_num, by omega, by omega, Lib.hid (by have := HAB.out; simp at *; omega), Lib.hid (by simpa using HPE.out), Lib.hid (by have := HSO.out; simp at this; exact List.pairwise_cons.2 ⟨HXB.out, this⟩), Lib.hid (by have h := ownsRow_below HO.out ((Below.refl _ _).drew); simpa using h), Lib.hid HB.out.drew⟩
            case measure => simp [RowKit.intOf]; omega
          · obtain ⟨A', y, rfl⟩ : ∃ A' y, A = A' ++ [y] := by
              rcases List.eq_nil_or_concat A with h | ⟨A', y, h⟩
              · exact absurd HA.out (by rw [h]; simp; omega)
              · exact ⟨A', y, by rw [h, List.concat_eq_append]⟩
            obtain ⟨jp, hjp⟩ : ∃ jp, jp = A'.length := ⟨_, rfl⟩
            have HJP := Lib.hid hjp
            obtain rfl : j = jp + 1 := by have := HA.out; simp at this; omega
            have hls : (A' ++ [y]) ++ x :: (B ++ C') = A' ++ y :: x :: (B ++ C') := by simp
            rw [hls] at HO HPE
            have hjn : jp + 1 < n := by omega
            have hmc := fun q hq => mid_cells A' (B ++ C') y x q hq
            rw [← hjp] at hmc
            have hcl := fun q (hq : q < 4) => (HO.out.cellAt (jp * 4 + q) (by omega)).trans (hmc q hq).1
            have hch := fun q (hq : q < 4) => (HO.out.cellAt ((jp + 1) * 4 + q) (by omega)).trans (hmc q hq).2
            have hcmp := HCM.out x y
            have hle1 : flowCmp x y < 0 → flowLe x y := flowLe_lt
            have hle2 : ¬ flowCmp x y < 0 → flowLe y x := flowLe_of
            have HSW := Lib.hid (fun (W : World) (h : W.ownsRow base 50 4 (.slice (some ⟨g, 0, none⟩) n cap) n (cellsL flowC (A' ++ y :: x :: (B ++ C')))) => swap_owns hjp h)
            have HSB := Lib.hid (fun (W : World) (h : Below base w W) => swap_below (g := g) jp y x HG.out h)
            obtain ⟨cq, hcq⟩ : ∃ cq, cq = flowCmp x y := ⟨_, rfl⟩
            rw [← hcq] at hle1 hle2 hcmp
            have hle : Hid ((cq < 0 → flowLe x y) ∧ (¬ cq < 0 → flowLe y x)) := Lib.hid ⟨hle1, hle2⟩
            clear hle1 hle2 hcq hmc hls hjp
            obtain ⟨X, hX⟩ : ∃ X, X = x := ⟨_, rfl⟩
            obtain ⟨Y, hY⟩ : ∃ Y, Y = y := ⟨_, rfl⟩
            rw [← hX, ← hY] at hle
            have HX := Lib.hid hX
            have HY := Lib.hid hY
            clear hX hY
            have HCMP := Lib.hid hcmp
            have c0 := hcl 0 (by omega)
            have c1 := hcl 1 (by omega)
            have c2 := hcl 2 (by omega)
            have c3 := hcl 3 (by omega)
            have d0 := hch 0 (by omega)
            have d1 := hch 1 (by omega)
            have d2 := hch 2 (by omega)
            have d3 := hch 3 (by omega)
            have HOS : Hid (∀ W, Below wr.heap.size wr W → W.ownsRow base 50 4 (.slice (some ⟨g, 0, none⟩) n cap) n (cellsL flowC (A' ++ y :: x :: (B ++ C')))) := Lib.hid fun W hW => ownsRow_below HO.out hW
            have HBW : Hid (∀ W, Below wr.heap.size wr W → Below base w W) := Lib.hid fun W hW => HB.out.trans (hW.mono (Nat.le_trans HBASE.out HB.out.size))
            simp only [flowC, List.getElem?_cons_zero, List.getElem?_cons_succ, Nat.add_zero] at c0 c1 c2 c3 d0 d1 d2 d3 HCMP
            clear hcl hch hcmp HO HB
            obtain ⟨xd, xa, xk, xr⟩ := x
            obtain ⟨yd, ya, yk, yr⟩ := y
            simp only at c0 c1 c2 c3 d0 d1 d2 d3 HCMP
            have hcs : wr.cell? ⟨g, jp * 4, none⟩ = some (.int .i64 yd) ∧ wr.cell? ⟨g, jp * 4 + 1, none⟩ = some (.int .i64 ya) ∧ wr.cell? ⟨g, jp * 4 + 2, none⟩ = some (.int .i64 yk) ∧ wr.cell? ⟨g, jp * 4 + 3, none⟩ = some (.int .i64 yr) ∧ wr.cell? ⟨g, (jp + 1) * 4, none⟩ = some (.int .i64 xd) ∧ wr.cell? ⟨g, (jp + 1) * 4 + 1, none⟩ = some (.int .i64 xa) ∧ wr.cell? ⟨g, (jp + 1) * 4 + 2, none⟩ = some (.int .i64 xk) ∧ wr.cell? ⟨g, (jp + 1) * 4 + 3, none⟩ = some (.int .i64 xr) := ⟨c0, c1, c2, c3, d0, d1, d2, d3⟩
            have hwp : IntKind.i64.wrap (jp : Int) = (jp : Int) := by rw [IntKind.wrap_i64]; omega
            have jz : (jp : Int) + 1 < (n : Int) := by omega
            have jz1 : (jp : Int) < (n : Int) := by omega
            have p0 : (0 : Int) ≤ (jp : Int) + 1 := by omega
            have p1 : (0 : Int) < (jp : Int) + 1 := by omega
            have e0 : ((jp : Int) + 1).toNat = jp + 1 := by omega
            clear c0 c1 c2 c3 d0 d1 d2 d3
            have HCO : Hid (∀ W, Below wr.heap.size wr W → W.cell? ⟨g, jp * 4, none⟩ = some (.int .i64 yd) ∧ W.cell? ⟨g, jp * 4 + 1, none⟩ = some (.int .i64 ya) ∧ W.cell? ⟨g, jp * 4 + 2, none⟩ = some (.int .i64 yk) ∧ W.cell? ⟨g, jp * 4 + 3, none⟩ = some (.int .i64 yr) ∧ W.cell? ⟨g, (jp + 1) * 4, none⟩ = some (.int .i64 xd) ∧ W.cell? ⟨g, (jp + 1) * 4 + 1, none⟩ = some (.int .i64 xa) ∧ W.cell? ⟨g, (jp + 1) * 4 + 2, none⟩ = some (.int .i64 xk) ∧ W.cell? ⟨g, (jp + 1) * 4 + 3, none⟩ = some (.int .i64 xr)) := Lib.hid fun W hW => by
              have hlt : g < wr.heap.size := by
                rcases Nat.lt_or_ge g wr.heap.size with h | h
                · exact h
                · have := hcs.1; simp [World.cell?, Array.getElem?_eq_none h] at this
              obtain ⟨q0, q1, q2, q3, q4, q5, q6, q7⟩ := hcs
              exact ⟨(hW.cell (p := ⟨g, _, none⟩) hlt).trans q0, (hW.cell (p := ⟨g, _, none⟩) hlt).trans q1, (hW.cell (p := ⟨g, _, none⟩) hlt).trans q2, (hW.cell (p := ⟨g, _, none⟩) hlt).trans q3, (hW.cell (p := ⟨g, _, none⟩) hlt).trans q4, (hW.cell (p := ⟨g, _, none⟩) hlt).trans q5, (hW.cell (p := ⟨g, _, none⟩) hlt).trans q6, (hW.cell (p := ⟨g, _, none⟩) hlt).trans q7⟩
            go_upto_region 4 with fail
            go_region_held3 (fun W => W.cell? ⟨g, jp * 4, none⟩ = some (.int .i64 yd) ∧ W.cell? ⟨g, jp * 4 + 1, none⟩ = some (.int .i64 ya) ∧ W.cell? ⟨g, jp * 4 + 2, none⟩ = some (.int .i64 yk) ∧ W.cell? ⟨g, jp * 4 + 3, none⟩ = some (.int .i64 yr) ∧ W.cell? ⟨g, (jp + 1) * 4, none⟩ = some (.int .i64 xd) ∧ W.cell? ⟨g, (jp + 1) * 4 + 1, none⟩ = some (.int .i64 xa) ∧ W.cell? ⟨g, (jp + 1) * 4 + 2, none⟩ = some (.int .i64 xk) ∧ W.cell? ⟨g, (jp + 1) * 4 + 3, none⟩ = some (.int .i64 xr)) (first | exact hcs | exact HCO.out _ HJ.out) (first | (go_at_call 35; with_reducible refine Calls.mono (HCMP.out _) ?_; rintro e x7 ⟨rfl, b7⟩; (have HJ : Hid (Below wr.heap.size wr x7) := Lib.hid (by first | exact b7 | exact Below.trans ((Below.refl _ _).drew) (b7.mono (Nat.le_refl _)))); clear b7))
            rename_i hheld
            clear hcs HCMP hheld
            by_cases hlv : cq < 0
            · have hxy := hle.out.1 (by omega)
              obtain ⟨q0, q1, q2, q3, q4, q5, q6, q7⟩ := HCO.out _ HJ.out
              have hod := HOS.out _ HJ.out
              have hfz := fun q => (HOS.out _ HJ.out).frozenAt q
              have z0 := hfz (jp * 4)
              have z1 := hfz (jp * 4 + 1)
              have z2 := hfz (jp * 4 + 2)
              have z3 := hfz (jp * 4 + 3)
              have z4 := hfz ((jp + 1) * 4)
              have z5 := hfz ((jp + 1) * 4 + 1)
              have z6 := hfz ((jp + 1) * 4 + 2)
              have z7 := hfz ((jp + 1) * 4 + 3)
              have y0 : ¬ jp * 4 = (jp + 1) * 4 := by omega
              have y1 : ¬ (jp + 1) * 4 = jp * 4 := by omega
              have y2 : ¬ jp * 4 = (jp + 1) * 4 + 1 := by omega
              have y3 : ¬ (jp + 1) * 4 + 1 = jp * 4 := by omega
              have y4 : ¬ jp * 4 + 1 = (jp + 1) * 4 := by omega
              have y5 : ¬ (jp + 1) * 4 = jp * 4 + 1 := by omega
              have y6 : ¬ jp * 4 = (jp + 1) * 4 + 2 := by omega
              have y7 : ¬ (jp + 1) * 4 + 2 = jp * 4 := by omega
              have y8 : ¬ jp * 4 + 2 = (jp + 1) * 4 := by omega
              have y9 : ¬ (jp + 1) * 4 = jp * 4 + 2 := by omega
              have y10 : ¬ jp * 4 = (jp + 1) * 4 + 3 := by omega
              have y11 : ¬ (jp + 1) * 4 + 3 = jp * 4 := by omega
              have y12 : ¬ jp * 4 + 3 = (jp + 1) * 4 := by omega
              have y13 : ¬ (jp + 1) * 4 = jp * 4 + 3 := by omega
              have HSW2 := Lib.hid (ownsRow_below (HSW.out _ hod) ((Below.refl _ _).drew))
              have HSB2 := Lib.hid ((HSB.out _ (HBW.out _ HJ.out)).drew)
              have HXY := Lib.hid hxy
              unfold swapW at HSW2 HSB2
              simp only at HSW2 HSB2
              clear hfz hod hxy HSW HSB HBW HOS HCO HCM
              go_wp2_with fail
              go_big_region_o
              all_goals go_wp2
              go_roundw
              case rel => exact ⟨jp, A', ⟨yd, ya, yk, yr⟩ :: B, by first | rfl | go_num, by omega, Lib.hid HJP.out.symm, Lib.hid (by have := HAB.out; rw [List.length_append] at this; simp at *; omega), Lib.hid (by simpa using HSO.out), Lib.hid (fun b hb => by
                rcases List.mem_cons.1 hb with rfl | hb
                · have := HXY.out; rw [HX.out, HY.out] at this; exact this
                · exact HXB.out b hb), Lib.hid (by
                  refine List.Perm.trans ?_ HPE.out
                  exact List.Perm.append_left A' (List.Perm.swap _ _ _)), HSW2, HSB2⟩
              case measure => simp [RowKit.intOf]
            · have hyx := Lib.hid (hle.out.2 (by omega))
              have HOX := Lib.hid (HOS.out _ HJ.out)
              have HBX := Lib.hid (HBW.out _ HJ.out)
              clear HSW HSB HBW HOS HCO
              go_wp2
              go_roundw
              case rel => exact ⟨i + 1, (A' ++ [⟨yd, ya, yk, yr⟩]) ++ ⟨xd, xa, xk, xr⟩ :: B, C', by first | rfl | go_num, by omega, by omega, Lib.hid (by have := HAB.out; rw [List.length_append, List.length_cons]; omega), Lib.hid (by simpa using HPE.out), Lib.hid (sorted_ins HSO.out HXB.out (last_le HSO.out (by have := hyx.out; rw [HX.out, HY.out] at this; exact this))), Lib.hid (by simpa using HOX.out), HBX⟩
              case measure => simp [RowKit.intOf]; omega
      · obtain rfl : i = n := by omega
        have hC : C = [] := by
          have h1 := HPE.out.length_eq
          have h2 := HP.out
          have h3 := HN.out
          rw [List.length_append] at h1
          exact List.length_eq_zero_iff.1 (by omega)
        subst hC
        go_wp2
        go_end0
        exact ⟨rfl, P, by simpa using HPE.out, HSO.out, by simpa using HO.out, HB.out⟩

end Go.Proofs.YtebgfbcojhmdlaaDoor
