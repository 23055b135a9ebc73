/- The walk of ClassificationTexts: a list comes back from its text, and what is left of it without a heading; for every list of numbers. -/
import Derived.Test.YtionnohajnnfmaaGreatDoorClParse
import Derived.Test.YtionnohajnnfmaaGreatDoorClText
import Derived.Test.YtionnohajnnfmaaGreatDoorClSame
import Derived.Test.YtionnohajnnfmaaGreatDoorClAwake
import Derived.Test.YtionnohajnnfmaaGreatDoorClChildren
import Derived.Deep.RegionHeld3
import Derived.Deep.AppendLies
import Derived.IntWalk
namespace Go.Proofs.YtionnohajnnfmaaGreatDoor
open Go.RowKit Go.Lib Go.Proofs

theorem below_tr {w A B : World} (h : Below w.heap.size w A) (k : Below A.heap.size A B) : Below w.heap.size w B := h.trans (k.mono h.size)

theorem addr_add (g o j : Nat) : (⟨g, o, none⟩ : Addr).add j = ⟨g, o + j, none⟩ := by
  unfold Addr.add
  split <;> simp_all
theorem below_grown {w A B : World} {row : Option Nat} (h : Below w.heap.size w A) (hg : A.grownBy B row) (hr : ∀ r, row = some r → w.heap.size ≤ r) : Below w.heap.size w B := h.grown hg h.size hr

/-- An append to a row of the call's own, at a step of a region that draws; of any number of elements. -/
theorem step_append_own {P : Program} (w : World) {ops : Array Oper} {o : Oper} {a : Act} {K : Act → World → Prop} {Q : Exit → Act → World → Prop} {E : Prop} (hgd : o.guard = none) (s x : Operand) (t : TypeId)
    (ho : o.op = .call { callee := .builtin .append, args := #[s, x], argTypes := #[t, t] })
    (base : Nat) (e : TypeId) (i : TypeInfo) (z : Value) (size bytes : Nat) (ht : P.underlying t = some (.slice e)) (hi : P.info? e = some i) (hz : i.zero = some z)
    (hsize : i.size = size) (hby : i.bytes = bytes) (hzs : z.cells.size = size) (hsz : 0 < size)
    (v : Value) (n : Nat) (xs : List Value) (hs : a.eval s = v) (hown : w.ownsRow base e size v n xs)
    (ad : Addr) (m c : Nat) (news : List Value) (hx : a.eval x = .slice (some ad) m c) (hl : news.length = m * size) (hnews : ∀ j u, news[j]? = some u → w.cell? (ad.add j) = some u) (h1 : ∀ u ∈ news, u.oneCell' = true)
    (h63 : n + m ≤ maxLen) (hbytes : (n + m) * bytes ≤ 140737488355328) (hbase : base ≤ w.heap.size)
    (h : ∀ v' w', w'.ownsRow base e size v' (n + m) (xs ++ news) → w.grownBy w' v.ownBlock → K (a.put o.dst v') w') :
    if Region.wanted o (yielded ops a.tmps) = true then Oper.wp P o a w K Q else E := by
  have hw : Region.wanted o (yielded ops a.tmps) = true := by simp [Region.wanted, hgd]
  rw [if_pos hw]
  obtain ⟨v', w', hr, h2, h3, _⟩ := run_append_own_at (P := P) w base t o.type e i z size bytes ht hi hz hsize hby hzs hsz v n xs hown ad m c news hl hnews h1 h63 hbytes hbase
  unfold Oper.wp execOp
  simp only [ho, resolve, invoke, builtin, Sem.run_bind, Sem.run_pure, Result.andThen_ok, List.map_toArray, List.map_cons, List.map_nil, hs, hx, hr]
  exact h v' w' h2 h3

theorem cellsH_one (hs : List Head) : ∀ u ∈ cellsH hs, u.oneCell' = true := by
  induction hs with
  | nil => intro u hu; simp [cellsH] at hu
  | cons h hs ih =>
    intro u hu
    simp only [cellsH, List.mem_cons] at hu
    rcases hu with rfl | rfl | hu
    · rfl
    · rfl
    · exact ih u hu

theorem ownsH_none (w : World) : (w.alloc (.cells #[] 37)).ownsRow w.heap.size 37 2 (.slice (some ⟨w.heap.size, 0, none⟩) 0 0) 0 (cellsH []) :=
  World.ownsRow_lit (base := w.heap.size) (size := 2) (e := 37) w #[] 0 (Nat.le_refl _) (by decide) rfl

set_option maxRecDepth 100000 in
set_option maxHeartbeats 4000000 in
theorem lawTexts_any (v : Value) (n : Nat) (w : World) (hi : IntsAt w v n w.heap.size) (hn : n ≤ 9223372036854775807) (hL : Lay w) :
    Calls Tryz.prog 3 #[v] w fun e w' => e = .returned (.bool true) ∧ Below w.heap.size w w' := by
  obtain ⟨k0, hkk, hy0, hy1, hy2⟩ := infoH_parts
  have HNEW := Lib.hid (New_any v n w hi hn)
  clear hi hn
  go_enter Tryz.func3, Tryz.ntmps3
  go_wp2_with fail
  refine (HNEW.out).mono ?_
  rintro e w1 ⟨rfl, t1, b1⟩
  have HT := Lib.hid (Tree_any w.heap.size 12 w1 t1 (by omega))
  have hw1 : w.heap.size < w1.heap.size := t1.lt
  have B1 := Lib.hid b1
  have HL := Lib.hid hL
  clear t1 b1 HNEW hL
  go_wp2_with fail
  refine (HT.out).mono ?_
  rintro e w2 ⟨l, ls, hs, rfl, t2, o2, htree, g2⟩
  have HT2 := Lib.hid (Tree_any w.heap.size 2 w2 t2 (by omega))
  have G2 := Lib.hid g2
  have O2 := Lib.hid o2
  have HTR := Lib.hid htree
  clear t2 g2 o2 htree HT
  go_wp2_with fail
  refine (HT2.out).mono ?_
  rintro e w3 ⟨l', ls', hs', rfl, t3, o3, htree', g3⟩
  have o2' := O2.out.kept g3 (ownBlock_ne O2.out w.heap.size hw1)
  have g13 := grownBy_trans G2.out g3
  have hb3 : Below w.heap.size w w3 := ⟨g13.os.trans B1.out.os, g13.tape.trans B1.out.tape, g13.output.trans B1.out.output, Nat.le_trans B1.out.size g13.size, fun k hk => (g13.block k (by omega) (fun e => by injection e; omega)).trans (B1.out.block k hk)⟩
  have hl := tree_len HTR.out
  have hl' := tree_len htree'
  have hlen := HTR.out.len
  have hpos := HTR.out.pos
  have hlen' := htree'.len
  have hpos' := htree'.pos
  obtain ⟨g, cap, rfl, hg, hcap⟩ := owns_shape o2' (by omega)
  obtain ⟨g', cap', rfl, hg', hcap'⟩ := owns_shape o3 (by omega)
  have hglt : g < w3.heap.size := (o2'.lt g rfl).2
  have hc := tree_clean HTR.out
  have hc' := tree_clean htree'
  have hsm : ∀ h ∈ hs, h.1.size + h.2.size ≤ 1000 := fun h hh => by have := tree_small HTR.out h hh; omega
  have hsm' : ∀ h ∈ hs', h.1.size + h.2.size ≤ 1000 := fun h hh => by have := tree_small htree' h hh; omega
  have hf := tree_valid HTR.out (by omega)
  have hf' := tree_valid htree' (by omega)
  have htz : (textB hs).size ≤ 12000 := by
    rw [textB, txt_size]
    exact Nat.le_trans (textL_len 25 hs (tree_small HTR.out)) (Nat.le_trans (Nat.mul_le_mul_right _ (show hs.length ≤ 17 by omega)) (by decide))
  have hlay : ∀ W, Below w3.heap.size w3 W → Lay W := fun W hW => HL.out.below (hb3.trans (hW.mono hb3.size)) (Nat.le_refl _)
  have hrow : ∀ W, Below w3.heap.size w3 W → RowG W (.slice (some ⟨g, 0, none⟩) hs.length cap) hs.length 2 (cellsH hs) := fun W hW => (RowG.owns o2').below hW
  have hrow' : ∀ W, Below w3.heap.size w3 W → RowG W (.slice (some ⟨g', 0, none⟩) hs'.length cap') hs'.length 2 (cellsH hs') := fun W hW => (RowG.owns o3).below hW
  have htx : ∀ W, Below w3.heap.size w3 W → Calls Tryz.prog 11 #[.slice (some ⟨g, 0, none⟩) hs.length cap] W fun e w' => e = .returned (.string (textB hs)) ∧ Below W.heap.size W w' := fun W hW => clText_any hs _ W (hlay W hW) (hrow W hW) (by omega) hf hsm
  have htx' : ∀ W, Below w3.heap.size w3 W → Calls Tryz.prog 11 #[.slice (some ⟨g', 0, none⟩) hs'.length cap'] W fun e w' => e = .returned (.string (textB hs')) ∧ Below W.heap.size W w' := fun W hW => clText_any hs' _ W (hlay W hW) (hrow' W hW) (by omega) hf' hsm'
  have hpa : ∀ W, Below w3.heap.size w3 W → Calls Tryz.prog 10 #[.string (textB hs)] W (ParsePost W hs) := fun W hW => clParse_any hs W (hlay W hW) hc hsm (by omega) htz hf
  have hsame : ∀ x W, Below w3.heap.size w3 W → RowG W x hs.length 2 (cellsH hs) → Calls Tryz.prog 12 #[x, .slice (some ⟨g, 0, none⟩) hs.length cap] W fun e w' => e = .returned (.bool true) ∧ Below W.heap.size W w' := fun x W hW hx => by
    have := same_any hs hs x _ W hx (hrow W hW) (by omega) (by omega)
    rw [decide_eq_true rfl] at this
    exact this
  have hsame2 : ∀ W, Below w3.heap.size w3 W → Calls Tryz.prog 12 #[.slice (some ⟨g, 0, none⟩) hs.length cap, .slice (some ⟨g', 0, none⟩) hs'.length cap'] W fun e w' => e = .returned (.bool (decide (hs = hs'))) ∧ Below W.heap.size W w' := fun W hW => same_any hs hs' _ _ W (hrow W hW) (hrow' W hW) (by omega) (by omega)
  have hinj := textB_inj hc hc'
  obtain ⟨m, hm⟩ : ∃ m, m = hs.length := ⟨_, rfl⟩
  obtain ⟨m', hm'⟩ : ∃ m', m' = hs'.length := ⟨_, rfl⟩
  have hm2 : 2 ≤ m ∧ m ≤ 17 := by omega
  have hcl2 : m ≤ cap := by omega
  rw [← hm] at htx hsame hsame2 ⊢
  rw [← hm'] at htx' hsame2 ⊢
  have HM := Lib.hid hm
  have O2K := Lib.hid o2'
  have HROW := Lib.hid hrow
  have HTX := Lib.hid htx
  have HTX' := Lib.hid htx'
  have HPA := Lib.hid hpa
  have HSA := Lib.hid hsame
  have HSA2 := Lib.hid hsame2
  have HLAY := Lib.hid hlay
  have HB3 := Lib.hid hb3
  have T3 := Lib.hid t3
  have HINJ := Lib.hid hinj
  clear hm hm' hrow hrow' htx htx' hpa hsame hsame2 hlay hb3 t3 hinj htz hf hf' hsm hsm' hc hc' o2' o3 g3 g13 htree' hl hl' hlen hpos hlen' hpos' hcap hcap' O2 G2 HT2 B1
  have HX4 := Lib.hid (HTX.out w3 (Below.refl _ _))
  go_wp2_with fail
  refine (HX4.out).mono ?_
  rintro e w4 ⟨rfl, b4⟩
  have HP4 := Lib.hid (HPA.out w4 b4)
  have HB4 := Lib.hid b4
  clear b4
  go_wp2_with fail
  refine (HP4.out).mono ?_
  rintro e w5 ⟨x, rfl, o5, b5⟩
  have HB5 := Lib.hid (below_tr HB4.out b5)
  have HS5 := Lib.hid (HSA.out x w5 (below_tr HB4.out b5) (by rw [HM.out]; exact RowG.owns o5))
  obtain ⟨ax, capx, rfl, _, _⟩ := owns_gen o5
  clear o5 b5
  obtain ⟨T, hT⟩ : ∃ T, T = textB hs := ⟨_, rfl⟩
  obtain ⟨T', hT'⟩ : ∃ T', T' = textB hs' := ⟨_, rfl⟩
  rw [← hT] at HTX HINJ ⊢
  rw [← hT'] at HTX' HINJ
  have hcase : (T = T' ∧ decide (hs = hs') = true) ∨ (T ≠ T' ∧ decide (hs = hs') = false) := by
    by_cases h : hs = hs'
    · exact Or.inl ⟨HINJ.out.2 h, decide_eq_true h⟩
    · exact Or.inr ⟨fun e => h (HINJ.out.1 e), decide_eq_false h⟩
  clear hT hT'
  obtain ⟨sm, hsm⟩ : ∃ sm, sm = decide (hs = hs') := ⟨_, rfl⟩
  rw [← hsm] at HSA2 hcase
  have hteq : (T.toList == T'.toList) = sm := by
    rcases hcase with ⟨h1, h2⟩ | ⟨h1, h2⟩
    · rw [h2]; exact strEq_true h1
    · rw [h2]; exact strEq_false h1
  clear hsm hcase
  have hsmm : (sm != sm) = false := by simp
  go_wp2_with fail
  refine (HS5.out).mono ?_
  rintro e w6 ⟨rfl, b6⟩
  have HX6 := Lib.hid (HTX.out w6 (below_tr HB5.out b6))
  have HB6 := Lib.hid (below_tr HB5.out b6)
  clear b6
  go_wp2_with fail
  refine (HX6.out).mono ?_
  rintro e w7 ⟨rfl, b7⟩
  have HX7 := Lib.hid (HTX'.out w7 (below_tr HB6.out b7))
  have HB7 := Lib.hid (below_tr HB6.out b7)
  clear b7
  go_wp2_with fail
  refine (HX7.out).mono ?_
  rintro e w8 ⟨rfl, b8⟩
  have HX8 := Lib.hid (HSA2.out w8 (below_tr HB7.out b8))
  have HB8 := Lib.hid (below_tr HB7.out b8)
  clear b8
  go_wp2_with fail
  refine (HX8.out).mono ?_
  rintro e w9 ⟨rfl, b9⟩
  have HB9 := Lib.hid (below_tr HB8.out b9)
  have HN9 := Lib.hid (N_any w.heap.size m w9 (T3.out.below (below_tr HB8.out b9)) (by omega) (by omega))
  clear b9
  go_wp2_with fail
  refine (HN9.out).mono ?_
  rintro e w10 ⟨r, rfl, r0, r1, t10, g10⟩
  obtain ⟨k, rfl⟩ : ∃ k : Nat, r = k := ⟨r.toNat, by omega⟩
  have hkm : k < m := by omega
  have hkh : k < hs.length := by rw [← HM.out]; exact hkm
  -- what the new world has of the list
  have hb9 := HB3.out.trans (HB9.out.mono HB3.out.size)
  have hb10 : Below w.heap.size w w10 := ⟨g10.os.trans hb9.os, g10.tape.trans hb9.tape, g10.output.trans hb9.output, Nat.le_trans hb9.size g10.size, fun j hj => (g10.block j (by have := hb9.size; omega) (fun e => by injection e; omega)).trans (hb9.block j hj)⟩
  have hown10 := (ownsRow_below O2K.out HB9.out).kept g10 (ownBlock_ne O2K.out w.heap.size hw1)
  have hlay10 : ∀ W, Below w10.heap.size w10 W → Lay W := fun W hW => HL.out.below (hb10.trans (hW.mono hb10.size)) (Nat.le_refl _)
  have hrow10 : ∀ W, Below w10.heap.size w10 W → RowG W (.slice (some ⟨g, 0, none⟩) hs.length cap) hs.length 2 (cellsH hs) := fun W hW => (RowG.owns hown10).below hW
  have hg10 : g < w10.heap.size := (hown10.lt g rfl).2
  have hce10 : ∀ W, Below w10.heap.size w10 W → ∀ j, j < hs.length * 2 → W.cell? ⟨g, j, none⟩ = (cellsH hs)[j]? := fun W hW j hj => (hW.cell (p := ⟨g, j, none⟩) hg10).trans (hown10.cellAt j hj)
  have hm17 : hs.length ≤ 17 := by rw [← HM.out]; omega
  have hhd := tree_heads HTR.out
  have hhalf := tree_half HTR.out (by omega)
  have hlaw := less_law HTR.out (by omega) hkh
  have hlhs : (hs.eraseIdx k).length = m - 1 := by rw [List.length_eraseIdx, if_pos hkh, HM.out]
  have her : cellsH (hs.eraseIdx k) = cellsH (hs.take k) ++ cellsH (hs.drop (k + 1)) := by rw [cellsH_app, List.eraseIdx_eq_take_drop_succ]
  have htk : (cellsH (hs.take k)).length = k * 2 := by rw [cellsH_len, List.length_take]; omega
  have hdk : (cellsH (hs.drop (k + 1))).length = (m - (k + 1)) * 2 := by rw [cellsH_len, List.length_drop, HM.out]
  have hall : cellsH hs = cellsH (hs.take k) ++ (.string hs[k].1 :: .string hs[k].2 :: cellsH (hs.drop (k + 1))) := by
    have e1 : hs = hs.take k ++ hs[k] :: hs.drop (k + 1) := by rw [← List.drop_eq_getElem_cons hkh, List.take_append_drop]
    rw [show cellsH hs = cellsH (hs.take k ++ hs[k] :: hs.drop (k + 1)) by rw [← e1], ← cellsH_app]
    rfl
  have hn1 : ∀ W, Below w10.heap.size w10 W → ∀ j u, (cellsH (hs.take k))[j]? = some u → W.cell? ((⟨g, 0, none⟩ : Addr).add j) = some u := fun W hW j u hu => by
    have hj : j < k * 2 := by rw [← htk]; exact (List.getElem?_eq_some_iff.1 hu).1
    rw [addr_add]
    rw [Nat.zero_add, hce10 W hW j (by omega), hall, List.getElem?_append_left (by omega), hu]
  have hn2 : ∀ W, Below w10.heap.size w10 W → ∀ j u, (cellsH (hs.drop (k + 1)))[j]? = some u → W.cell? ((⟨g, (k + 1) * 2, none⟩ : Addr).add j) = some u := fun W hW j u hu => by
    have hj : j < (m - (k + 1)) * 2 := by rw [← hdk]; exact (List.getElem?_eq_some_iff.1 hu).1
    rw [addr_add]
    rw [hce10 W hW _ (by rw [← HM.out]; omega), hall, List.getElem?_append_right (by omega), htk, show (k + 1) * 2 + j - k * 2 = j + 1 + 1 by omega, List.getElem?_cons_succ, List.getElem?_cons_succ, hu]
  have hck : ∀ W, Below w10.heap.size w10 W → W.cell? ⟨g, k * 2, none⟩ = some (.string hs[k].1) := fun W hW => by
    rw [hce10 W hW (k * 2) (by omega), (cellsH_get hs k hkh).1]
  have hval : ∀ x W, Below w10.heap.size w10 W → RowG W x (hs.eraseIdx k).length 2 (cellsH (hs.eraseIdx k)) → Calls Tryz.prog 14 #[x] W fun e w' => e = .returned (.int .i64 (faultOf (hs.eraseIdx k)).2) ∧ Below W.heap.size W w' := fun x W hW hr => clValid_any _ x W (hlay10 W hW) hr (by omega) (fun h hh => hhd h (List.mem_of_mem_eraseIdx hh))
  have hchi : ∀ W, Below w10.heap.size w10 W → Calls Tryz.prog 15 #[.slice (some ⟨g, 0, none⟩) hs.length cap, .string hs[k].1] W fun e w' => ∃ ao c, e = .returned (.slice ao (childrenOf hs hs[k].1).length c) ∧ Below W.heap.size W w' := fun W hW => (clChildren_any hs _ hs[k].1 W (hlay10 W hW) (hrow10 W hW) (by omega) hhd).mono fun e w' ⟨v, he, ho, hb⟩ => by
    obtain ⟨ao, c, rfl, _⟩ := owns_gen ho
    exact ⟨ao, c, he, hb⟩
  have haw : ∀ W, Below w10.heap.size w10 W → Calls Tryz.prog 16 #[] W fun e w' => e = .returned (.bool true) ∧ Below W.heap.size W w' := fun W hW => awake03_any W (hlay10 W hW)
  obtain ⟨bz, hbz⟩ : ∃ bz, bz = ((faultOf (hs.eraseIdx k)).2 == 0) := ⟨_, rfl⟩
  have hbz2 : (((childrenOf hs hs[k].1).length : Int) == 0) = bz := by
    rw [hbz, Bool.eq_iff_iff, beq_iff_eq, beq_iff_eq, hlaw]
    constructor
    · intro h; exact List.length_eq_zero_iff.1 (by omega)
    · intro h; rw [h]; rfl
  obtain ⟨L1, hL1⟩ : ∃ L1, L1 = cellsH (hs.take k) := ⟨_, rfl⟩
  obtain ⟨L2, hL2⟩ : ∃ L2, L2 = cellsH (hs.drop (k + 1)) := ⟨_, rfl⟩
  obtain ⟨L3, hL3⟩ : ∃ L3, L3 = cellsH (hs.eraseIdx k) := ⟨_, rfl⟩
  have ho1 : ∀ u ∈ L1, u.oneCell' = true := by rw [hL1]; exact cellsH_one _
  have ho2 : ∀ u ∈ L2, u.oneCell' = true := by rw [hL2]; exact cellsH_one _
  rw [← hL1] at hn1 htk her
  rw [← hL2] at hn2 hdk her
  rw [← hL3] at her hval
  rw [hlhs] at hval
  obtain ⟨fz, hfz⟩ : ∃ fz, fz = (faultOf (hs.eraseIdx k)).2 := ⟨_, rfl⟩
  rw [← hfz] at hval hbz
  obtain ⟨nc, hnc⟩ : ∃ nc, nc = (childrenOf hs hs[k].1).length := ⟨_, rfl⟩
  rw [← hnc] at hchi hbz2
  rw [← HM.out] at hchi
  generalize hs[k].1 = c at *
  have HV := Lib.hid hval
  have HCHI := Lib.hid hchi
  have HAW := Lib.hid haw
  have HN1 := Lib.hid hn1
  have HN2 := Lib.hid hn2
  have HCK := Lib.hid hck
  have HER := Lib.hid her
  have HL1 := Lib.hid htk
  have HL2 := Lib.hid hdk
  have HO1 := Lib.hid ho1
  have HO2 := Lib.hid ho2
  have HB10 := Lib.hid hb10
  have hfz1 : (fz == 0) = bz := hbz.symm
  have hkz : (k : Int) < (m : Int) := by omega
  have hk17 : (k : Int) + 1 ≤ (m : Int) := by omega
  have hkc : (k : Int) ≤ (cap : Int) := by omega
  have hmc : (m : Int) ≤ (cap : Int) := by omega
  clear hval hchi haw hn1 hn2 hck her htk hdk ho1 ho2 hb10 hb9 hown10 hlay10 hrow10 hce10 hhd hhalf hlaw hlhs hall hL1 hL2 hL3 hbz hfz hnc T3 HN9 HB3 HB4 HB5 HB6 HB7 HB8 HX4 HX6 HX7 HX8 HP4 HS5 HTX HTX' HPA HSA HSA2 HLAY HROW O2K HINJ hteq
  have hBr := Below.refl w10.heap.size w10
  by_cases hck1 : cap = k + 1
  · subst hck1
    obtain rfl : m = k + 1 := by omega
    have hl20 : L2 = [] := List.length_eq_zero_iff.1 (by have := HL2.out; simpa using this)
    have HL20 := Lib.hid hl20
    simp only [Nat.add_sub_cancel] at HV
    have hkz1 : (k : Int) < (k : Int) + 1 := by omega
    have hkc1 : (k : Int) ≤ (k : Int) + 1 := by omega
    clear hl20 hkz hk17 hkc hmc
    have hsw : IntKind.i64.wrap ((k : Int) + 1) = (k : Int) + 1 := IntWalk.i64_in _ (by omega)
    have hs0 : (0 : Int) ≤ (k : Int) + 1 := by omega
    have hsn : ((k : Int) + 1).toNat = k + 1 := by omega
    go_wp2_with fail
    go_region_held3 (fun W => Below w10.heap.size w10 W) (first | assumption | exact Below.drew (by assumption) | exact below_al (by assumption) _ | exact below_grown (by assumption) hgrow1 (fun r e => by simp [Value.ownBlock] at e; omega) | exact below_grown (by assumption) hgrow2 (fun r e => ownBlock_le hown11 r e))
      (first
        | (refine step_append_own _ (by rfl) _ _ _ (by rfl) w10.heap.size 37 k0 _ 2 32 Tryz.underlying25 hkk hy0 hy1 hy2 rfl (by decide) (.slice (some ⟨w10.heap.size, 0, none⟩) 0 0) 0 [] (by rfl) (by first | exact ownsH_none _ | exact (ownsH_none _).drew) ⟨g, 0, none⟩ k (k + 1) L1 (by rfl) HL1.out (HN1.out _ (by assumption)) HO1.out (by unfold maxLen; omega) (by omega) (by simp) ?_; intro v11 w11 hown11 hgrow1)
        | (refine step_append_own _ (by rfl) _ _ _ (by rfl) w10.heap.size 37 k0 _ 2 32 Tryz.underlying25 hkk hy0 hy1 hy2 rfl (by decide) v11 (0 + k) ([] ++ L1) (by rfl) hown11 ⟨g, 0, none⟩ 0 0 [] (by rfl) rfl (by intro j u h; simp at h) (by simp) (by unfold maxLen; omega) (by omega) (by have := hgrow1.size; simp at this; omega) ?_; intro v12 w12 hown12 hgrow2))
    have h12 : Below w10.heap.size w10 w12 := by assumption
    have hown := hown12
    rw [Nat.zero_add, List.nil_append, List.append_nil, ← List.append_nil L1, ← HL20.out, ← HER.out, Nat.add_zero] at hown
    obtain ⟨a12, c12, rfl, _, _⟩ := owns_gen hown
    have hv12 : ∀ W, Below w12.heap.size w12 W → Calls Tryz.prog 14 #[.slice a12 k c12] W fun e w' => e = .returned (.int .i64 fz) ∧ Below w12.heap.size w12 w' := fun W hW => (HV.out _ W (below_tr h12 hW) ((RowG.owns hown).below hW)).mono fun e w' h => ⟨h.1, below_tr hW h.2⟩
    have hc12 : ∀ W, Below w12.heap.size w12 W → Calls Tryz.prog 15 #[.slice (some ⟨g, 0, none⟩) (k + 1) (k + 1), .string c] W fun e w' => ∃ ao cc, e = .returned (.slice ao nc cc) ∧ Below w12.heap.size w12 w' := fun W hW => (HCHI.out W (below_tr h12 hW)).mono fun e w' ⟨ao, cc, he, hb⟩ => ⟨ao, cc, he, below_tr hW hb⟩
    have ha12 : ∀ W, Below w12.heap.size w12 W → Calls Tryz.prog 16 #[] W fun e w' => e = .returned (.bool true) ∧ Below w12.heap.size w12 w' := fun W hW => (HAW.out W (below_tr h12 hW)).mono fun e w' h => ⟨h.1, below_tr hW h.2⟩
    have hk12 : ∀ W, Below w12.heap.size w12 W → W.cell? ⟨g, k * 2, none⟩ = some (.string c) := fun W hW => HCK.out W (below_tr h12 hW)
    have HV12 := Lib.hid hv12
    have HC12 := Lib.hid hc12
    have HA12 := Lib.hid ha12
    have HK12 := Lib.hid hk12
    have H12 := Lib.hid h12
    have hself : Below w12.heap.size w12 w12 := Below.refl _ _
    clear hv12 hc12 ha12 hk12 hown hown12 hgrow2 hown11 hgrow1
    cases bz
    all_goals
      go_wp2_with fail
      go_region_held3 (fun W => Below w12.heap.size w12 W ∧ W.cell? ⟨g, k * 2, none⟩ = some (.string c)) (first | exact ⟨by assumption, HK12.out _ (by assumption)⟩ | exact ⟨Below.drew (by assumption), HK12.out _ (Below.drew (by assumption))⟩)
        (first
          | (go_at_call 14; (with_reducible refine (HV12.out _ (by first | assumption | exact Below.drew (by assumption))).mono ?_); rintro e w' ⟨rfl, hbv⟩)
          | (go_at_call 15; (with_reducible refine (HC12.out _ (by first | assumption | exact Below.drew (by assumption))).mono ?_); rintro e w' ⟨ak, ck, rfl, hbc⟩)
          | (go_at_call 16; (with_reducible refine (HA12.out _ (by first | assumption | exact Below.drew (by assumption))).mono ?_); rintro e w' ⟨rfl, hba⟩))
      go_wp2
      go_ret
      exact ⟨rfl, HB10.out.trans ((below_tr H12.out hba).mono HB10.out.size)⟩
  · have hsw : IntKind.i64.wrap ((k : Int) + 1) = (k : Int) + 1 := IntWalk.i64_in _ (by omega)
    have hs0 : (0 : Int) ≤ (k : Int) + 1 := by omega
    have hsn : ((k : Int) + 1).toNat = k + 1 := by omega
    have hck2 : ¬ k + 1 = cap := by omega
    go_wp2_with fail
    go_region_held3 (fun W => Below w10.heap.size w10 W) (first | assumption | exact Below.drew (by assumption) | exact below_al (by assumption) _ | exact below_grown (by assumption) hgrow1 (fun r e => by simp [Value.ownBlock] at e; omega) | exact below_grown (by assumption) hgrow2 (fun r e => ownBlock_le hown11 r e))
      (first
        | (refine step_append_own _ (by rfl) _ _ _ (by rfl) w10.heap.size 37 k0 _ 2 32 Tryz.underlying25 hkk hy0 hy1 hy2 rfl (by decide) (.slice (some ⟨w10.heap.size, 0, none⟩) 0 0) 0 [] (by rfl) (by first | exact ownsH_none _ | exact (ownsH_none _).drew) ⟨g, 0, none⟩ k cap L1 (by rfl) HL1.out (HN1.out _ (by assumption)) HO1.out (by unfold maxLen; omega) (by omega) (by simp) ?_; intro v11 w11 hown11 hgrow1)
        | (refine step_append_own _ (by rfl) _ _ _ (by rfl) w10.heap.size 37 k0 _ 2 32 Tryz.underlying25 hkk hy0 hy1 hy2 rfl (by decide) v11 (0 + k) ([] ++ L1) (by rfl) hown11 ⟨g, (k + 1) * 2, none⟩ (m - (k + 1)) (cap - (k + 1)) L2 (by rfl) HL2.out (HN2.out _ (by assumption)) HO2.out (by unfold maxLen; omega) (by omega) (by have := hgrow1.size; simp at this; omega) ?_; intro v12 w12 hown12 hgrow2))
    have h12 : Below w10.heap.size w10 w12 := by assumption
    have hown := hown12
    rw [Nat.zero_add, List.nil_append, ← HER.out, show k + (m - (k + 1)) = m - 1 by omega] at hown
    obtain ⟨a12, c12, rfl, _, _⟩ := owns_gen hown
    have hv12 : ∀ W, Below w12.heap.size w12 W → Calls Tryz.prog 14 #[.slice a12 (m - 1) c12] W fun e w' => e = .returned (.int .i64 fz) ∧ Below w12.heap.size w12 w' := fun W hW => (HV.out _ W (below_tr h12 hW) ((RowG.owns hown).below hW)).mono fun e w' h => ⟨h.1, below_tr hW h.2⟩
    have hc12 : ∀ W, Below w12.heap.size w12 W → Calls Tryz.prog 15 #[.slice (some ⟨g, 0, none⟩) m cap, .string c] W fun e w' => ∃ ao cc, e = .returned (.slice ao nc cc) ∧ Below w12.heap.size w12 w' := fun W hW => (HCHI.out W (below_tr h12 hW)).mono fun e w' ⟨ao, cc, he, hb⟩ => ⟨ao, cc, he, below_tr hW hb⟩
    have ha12 : ∀ W, Below w12.heap.size w12 W → Calls Tryz.prog 16 #[] W fun e w' => e = .returned (.bool true) ∧ Below w12.heap.size w12 w' := fun W hW => (HAW.out W (below_tr h12 hW)).mono fun e w' h => ⟨h.1, below_tr hW h.2⟩
    have hk12 : ∀ W, Below w12.heap.size w12 W → W.cell? ⟨g, k * 2, none⟩ = some (.string c) := fun W hW => HCK.out W (below_tr h12 hW)
    have HV12 := Lib.hid hv12
    have HC12 := Lib.hid hc12
    have HA12 := Lib.hid ha12
    have HK12 := Lib.hid hk12
    have H12 := Lib.hid h12
    have hself : Below w12.heap.size w12 w12 := Below.refl _ _
    clear hv12 hc12 ha12 hk12 hown hown12 hgrow2 hown11 hgrow1
    cases bz
    all_goals
      go_wp2_with fail
      go_region_held3 (fun W => Below w12.heap.size w12 W ∧ W.cell? ⟨g, k * 2, none⟩ = some (.string c)) (first | exact ⟨by assumption, HK12.out _ (by assumption)⟩ | exact ⟨Below.drew (by assumption), HK12.out _ (Below.drew (by assumption))⟩)
        (first
          | (go_at_call 14; (with_reducible refine (HV12.out _ (by first | assumption | exact Below.drew (by assumption))).mono ?_); rintro e w' ⟨rfl, hbv⟩)
          | (go_at_call 15; (with_reducible refine (HC12.out _ (by first | assumption | exact Below.drew (by assumption))).mono ?_); rintro e w' ⟨ak, ck, rfl, hbc⟩)
          | (go_at_call 16; (with_reducible refine (HA12.out _ (by first | assumption | exact Below.drew (by assumption))).mono ?_); rintro e w' ⟨rfl, hba⟩))
      go_wp2
      go_ret
      exact ⟨rfl, HB10.out.trans ((below_tr H12.out hba).mono HB10.out.size)⟩

end Go.Proofs.YtionnohajnnfmaaGreatDoor
