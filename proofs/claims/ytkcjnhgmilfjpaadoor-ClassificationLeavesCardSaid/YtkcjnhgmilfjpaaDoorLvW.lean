/- The walk of ClassificationLeaves: the leaves under a code are those under its children, or the code itself; for every list of numbers. -/
import Derived.Test.YtkcjnhgmilfjpaaDoorLvM
namespace Go.Proofs.YtkcjnhgmilfjpaaDoor
open Go.RowKit Go.Lib Go.Proofs

/-- What a made classification gives every later world: what Go's library reads, and the headings. -/
structure Made (w2 : World) (g cap : Nat) (hs : List Head) : Prop where
  lay : ∀ W, Below w2.heap.size w2 W → Lay W
  row : ∀ W, Below w2.heap.size w2 W → RowG W (.slice (some ⟨g, 0, none⟩) hs.length cap) hs.length 2 (cellsH hs)
  cells : ∀ W, Below w2.heap.size w2 W → ∀ k (hk : k < hs.length), W.cell? ⟨g, k * 2, none⟩ = some (.string hs[k].1) ∧ W.cell? ⟨g, k * 2 + 1, none⟩ = some (.string hs[k].2)
  heads : HeadsOk hs

theorem made_tree {w w2 : World} {v : Value} {hs : List Head} {n : Nat} {ls : List (List Nat)} (hL : Lay w) (hb : Below w.heap.size w w2) (ho : w2.ownsRow (w.heap.size + 1) 28 2 v hs.length (cellsH hs)) (ht : TreeHs n ls hs) (hn : n ≤ 60) :
    2 ≤ hs.length ∧ hs.length ≤ 65 ∧ ∃ g cap, v = .slice (some ⟨g, 0, none⟩) hs.length cap ∧ hs.length ≤ cap ∧ g < w2.heap.size ∧ Made w2 g cap hs := by
  have hl := tree_len ht
  have h2 := ht.pos
  have h3 := ht.len
  refine ⟨by omega, by omega, ?_⟩
  obtain ⟨g, cap, rfl, hg, hc⟩ := owns_shape ho (by omega)
  have hlt : g < w2.heap.size := (ho.lt g rfl).2
  refine ⟨g, cap, rfl, hc, hlt, fun W hW => hL.below (hb.trans (hW.mono hb.size)) (Nat.le_refl _), fun W hW => (RowG.owns ho).below hW, fun W hW k hk => ?_, tree_heads ht⟩
  obtain ⟨c1, c2⟩ := cellsH_get hs k hk
  rw [hW.cell (p := ⟨g, k * 2, none⟩) hlt, hW.cell (p := ⟨g, k * 2 + 1, none⟩) hlt, ho.cellAt (k * 2) (by omega), ho.cellAt (k * 2 + 1) (by omega), c1, c2]
  exact ⟨rfl, rfl⟩

theorem below_al {w W : World} (h : Below w.heap.size w W) (o : Obj) : Below w.heap.size w (W.alloc o) := h.trans ((below_alloc W o).mono h.size)
theorem below_tr {w A B : World} (h : Below w.heap.size w A) (k : Below A.heap.size A B) : Below w.heap.size w B := h.trans (k.mono h.size)

set_option maxRecDepth 100000 in
set_option maxHeartbeats 1600000 in
theorem lawLeaves_any (v : Value) (n : Nat) (w : World) (hi : IntsAt w v n w.heap.size) (hn : n ≤ 9223372036854775807) (hL : Lay w) :
    Calls Tryd.prog 3 #[v] w fun e w' => e = .returned (.bool true) ∧ Below w.heap.size w w' := by
  obtain ⟨i0, hi0, hz0, hz1, hz2⟩ := infoS_parts
  have HNEW := Lib.hid (New_any v n w hi hn)
  clear hi hn
  go_enter Tryd.func3, Tryd.ntmps3
  go_wp2_with fail
  refine (HNEW.out).mono ?_
  rintro e w1 ⟨rfl, t1, b1⟩
  have HT := Lib.hid (Tree_any w.heap.size 12 w1 t1 (by omega))
  have hw1 : w.heap.size < w1.heap.size := t1.lt
  have B1 := Lib.hid b1
  have HL := Lib.hid hL
  clear t1 b1 HNEW hL
  go_wp2_with fail
  refine (HT.out).mono ?_
  rintro e w2 ⟨l, ls, hs, rfl, t2, o2, htree, g2⟩
  have hb2 : Below w.heap.size w w2 := ⟨g2.os.trans B1.out.os, g2.tape.trans B1.out.tape, g2.output.trans B1.out.output, Nat.le_trans B1.out.size g2.size, fun k hk => (g2.block k (by omega) (fun e => by injection e; omega)).trans (B1.out.block k hk)⟩
  obtain ⟨hm2, hm65, g, cap, rfl, hcap, hglt, hmade⟩ := made_tree HL.out hb2 (ownsRow_mono o2 (by omega)) htree (by omega)
  have HCH : Hid (∀ x W, Below w2.heap.size w2 W → Calls Tryd.prog 7 #[.slice (some ⟨g, 0, none⟩) hs.length cap, .string x] W (CodesPost W (childrenOf hs x))) := Lib.hid fun x W hW => clChildren_any hs _ x W (hmade.lay W hW) (hmade.row W hW) (by omega) hmade.heads
  have HLV : Hid (∀ x W, x.size ≤ 1000000 → Below w2.heap.size w2 W → Calls Tryd.prog 8 #[.slice (some ⟨g, 0, none⟩) hs.length cap, .string x] W (CodesPost W (leavesOf hs x))) := Lib.hid fun x W hx hW => clLeaves_any hs _ x W (hmade.lay W hW) (hmade.row W hW) (by omega) hmade.heads hx
  have HAW : Hid (∀ W, Below w2.heap.size w2 W → Calls Tryd.prog 10 #[] W fun e w' => e = .returned (.bool true) ∧ Below W.heap.size W w') := Lib.hid fun W hW => awake03_any W (hmade.lay W hW)
  have HCE := Lib.hid hmade.cells
  have HHD := Lib.hid hmade.heads
  have HTR := Lib.hid htree
  have HB2 := Lib.hid hb2
  obtain ⟨m, hm⟩ : ∃ m, m = hs.length := ⟨_, rfl⟩
  rw [← hm] at HCH HLV hm2 hm65 hcap ⊢
  have HM := Lib.hid hm
  clear hmade o2 t2 htree g2 hb2 HT B1 HL hm hw1
  go_wp2_with fail
  go_loopw [19] (fun i wr => ∃ k : Nat, i = .int .i64 k ∧ k ≤ m ∧ Hid (Below w2.heap.size w2 wr)) (fun i _ => m - (RowKit.intOf i).toNat)
  case atStart => exact ⟨0, rfl, by omega, Lib.hid (Below.refl _ _)⟩
  case round =>
    obtain ⟨k, rfl, hkm, HB⟩ := hrel
    by_cases hlt : k < m
    · have hks : k < hs.length := by rw [← HM.out]; exact hlt
      obtain ⟨c1, c2⟩ := HCE.out wr HB.out k hks
      have hlaw := leaves_law HTR.out hks
      obtain ⟨hcs, _⟩ := HHD.out hs[k] (List.getElem_mem hks)
      have hgood : GoodN (ls[k]'(by rw [← tree_len HTR.out]; exact hks)) := HTR.out.ok.good _ (List.getElem_mem _)
      have hne := child_ne HTR.out (Or.inl hgood)
      rw [← tree_code HTR.out hks] at hne
      clear hgood
      generalize hs[k].1 = c at *
      generalize hs[k].2 = d at *
      have hcl : (childrenOf hs c).length ≤ m := by
        rw [HM.out]
        exact Nat.le_trans (List.length_filter_le _ _) (codesOf_len hs)
      obtain ⟨cs, hcse⟩ : ∃ cs, cs = childrenOf hs c := ⟨_, rfl⟩
      have hcall := fun o => HCH.out c (wr.alloc o) (HB.out.trans ((below_alloc wr o).mono HB.out.size))
      rw [← hcse] at hlaw hne hcl
      simp only [← hcse] at hcall
      have HCALL := Lib.hid hcall
      have HLAW := Lib.hid hlaw
      have HNE := Lib.hid hne
      clear hcall hlaw hne hcse
      go_wp2_with fail
      refine (HCALL.out _).mono ?_
      rintro e w4 ⟨u, rfl, o4, b4⟩
      have hb24 : Below w2.heap.size w2 w4 := (HB.out.trans ((below_alloc wr (.cells #[.string c, .string d] 28)).mono HB.out.size)).trans (b4.mono (by have := HB.out.size; simp; omega))
      have hh4 : w4.cell? ⟨wr.heap.size, 0, none⟩ = some (.string c) := by
        rw [b4.cell (p := ⟨wr.heap.size, 0, none⟩) (by simp)]
        simp
      have hlt4 : wr.heap.size < w4.heap.size := by have := b4.size; simp at this; omega
      obtain ⟨ao, capu, rfl, hcu, hsh⟩ := owns_gen o4
      have ho4 := fun W (hW : Below w4.heap.size w4 W) => ownsRow_below o4 hW
      obtain ⟨nc, hnc⟩ : ∃ nc, nc = cs.length := ⟨_, rfl⟩
      rw [← hnc] at hcl hcu hsh ho4 ⊢
      have HNC := Lib.hid hnc
      have HO4 := Lib.hid ho4
      have HB4 := Lib.hid hb24
      have HH4 := Lib.hid hh4
      have HSH := Lib.hid hsh
      clear o4 b4 hb24 hh4 hsh hnc ho4 HCALL c1 c2
      go_wp2_with fail
      go_loopw [7, 28] (fun x i wi => ∃ j : Nat, i = .int .i64 j ∧ j ≤ nc ∧ Hid (Below w4.heap.size w4 wi) ∧ Hid (wi.ownsRow w4.heap.size 9 1 x (flat hs (cs.take j)).length (cellsS (flat hs (cs.take j))))) (fun _ i _ => nc - (RowKit.intOf i).toNat)
      case atStart => exact ⟨0, rfl, by omega, Lib.hid (Below.refl _ _), Lib.hid (World.ownsRow_nil _ _ _ _)⟩
      case round =>
        obtain ⟨j, rfl, hjn, HBI, HWI⟩ := hrel
        have hf1 := flat_len hs (cs.take j)
        have hf2 : (flat hs (cs.take j)).length ≤ 10000 := by
          have h1 : (cs.take j).length ≤ 65 := by rw [List.length_take, ← HNC.out]; omega
          have h2 : hs.length ≤ 65 := by rw [← HM.out]; exact hm65
          exact Nat.le_trans hf1 (Nat.le_trans (Nat.mul_le_mul h1 h2) (by decide))
        clear hf1
        by_cases hjl : j < nc
        · have hjc : j < cs.length := by rw [← HNC.out]; exact hjl
          have hfs := flat_snoc hs hjc
          obtain ⟨hn1, hn2⟩ := HNE.out cs[j] (List.getElem_mem hjc)
          rcases HSH.out with ⟨_, h0, _⟩ | ⟨q, rfl, hq⟩
          · omega
          have hcj : wr.cell? ⟨q, j, none⟩ = some (.string cs[j]) := by
            rw [(HO4.out wr HBI.out).cellAt j (by omega), cellsS_get cs j hjc]
          generalize cs[j] = x at *
          have hle : (leavesOf hs x).length ≤ m := by
            rw [HM.out]
            exact Nat.le_trans (List.length_filter_le _ _) (codesOf_len hs)
          obtain ⟨fl, hfl⟩ : ∃ fl, fl = flat hs (cs.take j) := ⟨_, rfl⟩
          obtain ⟨lv, hlv⟩ : ∃ lv, lv = leavesOf hs x := ⟨_, rfl⟩
          have hcall := HLV.out x wr hn2 (HB4.out.trans (HBI.out.mono HB4.out.size))
          rw [← hfl] at HWI hfs hf2
          rw [← hlv] at hfs hn1 hle hcall
          have HCALL := Lib.hid hcall
          have HFS := Lib.hid hfs
          clear hcall hfs hfl hlv
          go_wp2_with fail
          refine (HCALL.out).mono ?_
          rintro e w5 ⟨y, rfl, o5, b5⟩
          have hown5 := ownsRow_below HWI.out b5
          have hb5 : Below w4.heap.size w4 w5 := HBI.out.trans (b5.mono HBI.out.size)
          obtain ⟨p, hp⟩ : ∃ p, p = lv.length := ⟨_, rfl⟩
          rw [← hp] at o5 hn1 hle
          obtain ⟨r, capr, rfl, hr, hpr⟩ := owns_shape o5 hn1
          have hsrc : ∀ i u, (cellsS lv)[i]? = some u → w5.cell? ((⟨r, 0, none⟩ : Addr).add i) = some u := fun i u h => o5.cells rfl i u h
          have hone : ∀ u ∈ cellsS lv, u.oneCell' = true := fun u hu => by
            obtain ⟨z, _, rfl⟩ := List.mem_map.1 hu
            rfl
          have hclen : (cellsS lv).length = p * 1 := by rw [cellsS_len, ← hp]; omega
          obtain ⟨f, hf⟩ : ∃ f, f = fl.length := ⟨_, rfl⟩
          rw [← hf] at hown5 hf2
          have HO5 := Lib.hid hown5
          have HB5 := Lib.hid hb5
          have HSRC := Lib.hid hsrc
          have HONE := Lib.hid hone
          have HCL := Lib.hid hclen
          have HF := Lib.hid hf
          have HP := Lib.hid hp
          clear hown5 hb5 hsrc hone hclen hf hp HWI HBI HCALL o5 b5
          go_wp2_with (at_builtin; refine wpList_append_own _ rfl _ _ 29 rfl w4.heap.size 9 i0 (.string ⟨#[]⟩) 1 16 Tryd.underlying29 hi0 hz0 hz1 hz2 rfl (by decide) _ _ _ rfl HO5.out ⟨r, 0, none⟩ p capr (cellsS lv) rfl HCL.out HSRC.out HONE.out (by unfold maxLen; omega) (by omega) HB5.out.size ?_; intro v6 w6 hown6 hgr6 _)
          have hb6 : Below w4.heap.size w4 w6 := HB5.out.grown hgr6 HB5.out.size fun j e => ownBlock_le HO5.out j e
          have hr6 : w6.ownsRow w4.heap.size 9 1 v6 (flat hs (cs.take (j + 1))).length (cellsS (flat hs (cs.take (j + 1)))) := by
            rw [HFS.out, List.length_append, ← HF.out, ← HP.out, ← cellsS_app]
            exact hown6
          have HB6 := Lib.hid hb6
          have HR6 := Lib.hid hr6
          clear hb6 hr6 hown6 hgr6
          go_roundw
          case rel => exact ⟨j + 1, by first | rfl | go_num, by omega, HB6, HR6⟩
          case measure => simp [RowKit.intOf]; omega
        · obtain rfl : j = nc := by omega
          rw [HNC.out, List.take_length] at HWI hf2
          obtain ⟨fl, hfl⟩ : ∃ fl, fl = flat hs cs := ⟨_, rfl⟩
          rw [← hfl] at HWI hf2 HLAW
          have hcall := HLV.out c
          obtain ⟨lv, hlv⟩ : ∃ lv, lv = leavesOf hs c := ⟨_, rfl⟩
          have hle : lv.length ≤ 1000000 := by
            have h2 : hs.length ≤ 65 := by rw [← HM.out]; exact hm65
            rw [hlv]
            exact Nat.le_trans (List.length_filter_le _ _) (Nat.le_trans (codesOf_len hs) (by omega))
          rw [← hlv] at HLAW hcall
          have hb2r := below_tr HB4.out HBI.out
          have hhr := (HBI.out.cell (by exact hlt4)).trans HH4.out
          have hltr := Nat.lt_of_lt_of_le hlt4 HBI.out.size
          have HBR := Lib.hid hb2r
          have HCALL := Lib.hid hcall
          clear hcall hb2r hlv hfl
          by_cases hz : fl = []
          · subst hz
            have hl1 := HLAW.out
            rw [if_pos rfl] at hl1
            subst hl1
            obtain ⟨ao, capf, rfl, hcf, hshf⟩ := owns_gen HWI.out
            have h1row : ∀ W, Below (wr.alloc (.cells #[.string c] 9)).heap.size (wr.alloc (.cells #[.string c] 9)) W → RowG W (.slice (some ⟨wr.heap.size, 0, none⟩) 1 1) [c].length 1 (cellsS [c]) := fun W hW => RowG.below (RowG.owns (World.ownsRow_lit (base := wr.heap.size) (size := 1) (e := 9) wr _ 1 (Nat.le_refl _) (by decide) rfl)) hW
            have H1 := Lib.hid h1row
            clear h1row hshf hcf HWI
            simp only [List.length_nil]
            go_wp2_with fail
            refine (HCALL.out _ hcs (below_al HBR.out _)).mono ?_
            rintro e w5 ⟨y, rfl, o5, b5⟩
            have htx := Texts_any [c] [c] y _ w5 (RowG.owns o5) (H1.out w5 b5) (by simp) (by simp)
            rw [decide_eq_true rfl] at htx
            obtain ⟨ay, capy, rfl, _, _⟩ := owns_gen o5
            have HTX := Lib.hid htx
            have HB5 := Lib.hid (below_tr (below_al HBR.out _) b5)
            clear htx o5 b5
            go_wp2_with fail
            refine (HTX.out).mono ?_
            rintro e w6 ⟨rfl, b6⟩
            have HB6 := Lib.hid (below_tr HB5.out b6)
            clear b6
            go_wp2_with fail
            go_roundw
            case rel => exact ⟨k + 1, by first | rfl | go_num, by omega, HB6⟩
            case measure => simp [RowKit.intOf]; omega
          · have hl1 := HLAW.out
            rw [if_neg hz] at hl1
            subst hl1
            have hpos : 0 < lv.length := List.length_pos_iff.2 hz
            obtain ⟨r, hr⟩ : ∃ r, r = lv.length := ⟨_, rfl⟩
            have hwi := fun W hW => (RowG.owns HWI.out).below (w' := W) hW
            rw [← hr] at hpos hwi HWI hf2
            obtain ⟨q, capf, rfl, hq, hcf⟩ := owns_shape HWI.out hpos
            have HR := Lib.hid hr
            have HW := Lib.hid hwi
            clear hr hwi HWI hz hle
            go_wp2_with fail
            refine (HCALL.out _ hcs HBR.out).mono ?_
            rintro e w5 ⟨y, rfl, o5, b5⟩
            have hwr := HW.out w5 b5
            rw [HR.out] at hwr hf2
            have htx := Texts_any lv lv y _ w5 (RowG.owns o5) hwr (by omega) (by omega)
            rw [decide_eq_true rfl, ← HR.out] at htx
            obtain ⟨ay, capy, rfl, _, _⟩ := owns_gen o5
            have HTX := Lib.hid htx
            have HB5 := Lib.hid (below_tr HBR.out b5)
            clear htx o5 b5 hwr
            go_wp2_with fail
            refine (HTX.out).mono ?_
            rintro e w6 ⟨rfl, b6⟩
            have HB6 := Lib.hid (below_tr HB5.out b6)
            clear b6
            go_wp2_with fail
            go_roundw
            case rel => exact ⟨k + 1, by first | rfl | go_num, by omega, HB6⟩
            case measure => simp [RowKit.intOf]; omega
    · obtain rfl : k = m := by omega
      have hge : (k : Int) ≤ (k : Int) := Int.le_refl _
      have hlaw := leaves_law_all HTR.out
      have hne := child_ne HTR.out (x := []) (Or.inr rfl)
      rw [show codeT [] = ⟨#[]⟩ from rfl] at hne
      have hcl : (childrenOf hs ⟨#[]⟩).length ≤ 65 := Nat.le_trans (List.length_filter_le _ _) (Nat.le_trans (codesOf_len hs) (by rw [← HM.out]; exact hm65))
      obtain ⟨cs, hcse⟩ : ∃ cs, cs = childrenOf hs ⟨#[]⟩ := ⟨_, rfl⟩
      have hcall := HCH.out ⟨#[]⟩ wr HB.out
      rw [← hcse] at hlaw hne hcl hcall
      have HCALL := Lib.hid hcall
      have HLAW := Lib.hid hlaw
      have HNE := Lib.hid hne
      clear hcall hlaw hne hcse
      go_wp2_with fail
      refine (HCALL.out).mono ?_
      rintro e w4 ⟨u, rfl, o4, b4⟩
      have hb24 := below_tr HB.out b4
      obtain ⟨ao, capu, rfl, hcu, hsh⟩ := owns_gen o4
      have ho4 := fun W (hW : Below w4.heap.size w4 W) => ownsRow_below o4 hW
      obtain ⟨nc, hnc⟩ : ∃ nc, nc = cs.length := ⟨_, rfl⟩
      rw [← hnc] at hcl hcu hsh ho4 ⊢
      have HNC := Lib.hid hnc
      have HO4 := Lib.hid ho4
      have HB4 := Lib.hid hb24
      have HSH := Lib.hid hsh
      clear o4 b4 hb24 hsh hnc ho4 HCALL HB
      go_wp2_with fail
      go_loopw [10, 55] (fun x i wi => ∃ j : Nat, i = .int .i64 j ∧ j ≤ nc ∧ Hid (Below w4.heap.size w4 wi) ∧ Hid (wi.ownsRow w4.heap.size 9 1 x (flat hs (cs.take j)).length (cellsS (flat hs (cs.take j))))) (fun _ i _ => nc - (RowKit.intOf i).toNat)
      case atStart => exact ⟨0, rfl, by omega, Lib.hid (Below.refl _ _), Lib.hid (World.ownsRow_nil _ _ _ _)⟩
      case round =>
        obtain ⟨j, rfl, hjn, HBI, HWI⟩ := hrel
        have hf1 := flat_len hs (cs.take j)
        have hf2 : (flat hs (cs.take j)).length ≤ 10000 := by
          have h1 : (cs.take j).length ≤ 65 := by rw [List.length_take, ← HNC.out]; omega
          have h2 : hs.length ≤ 65 := by rw [← HM.out]; exact hm65
          exact Nat.le_trans hf1 (Nat.le_trans (Nat.mul_le_mul h1 h2) (by decide))
        clear hf1
        by_cases hjl : j < nc
        · have hjc : j < cs.length := by rw [← HNC.out]; exact hjl
          have hfs := flat_snoc hs hjc
          obtain ⟨hn1, hn2⟩ := HNE.out cs[j] (List.getElem_mem hjc)
          rcases HSH.out with ⟨_, h0, _⟩ | ⟨q, rfl, hq⟩
          · omega
          have hcj : wr.cell? ⟨q, j, none⟩ = some (.string cs[j]) := by
            rw [(HO4.out wr HBI.out).cellAt j (by omega), cellsS_get cs j hjc]
          generalize cs[j] = x at *
          have hle : (leavesOf hs x).length ≤ k := by
            rw [HM.out]
            exact Nat.le_trans (List.length_filter_le _ _) (codesOf_len hs)
          obtain ⟨fl, hfl⟩ : ∃ fl, fl = flat hs (cs.take j) := ⟨_, rfl⟩
          obtain ⟨lv, hlv⟩ : ∃ lv, lv = leavesOf hs x := ⟨_, rfl⟩
          have hcall := HLV.out x wr hn2 (below_tr HB4.out HBI.out)
          rw [← hfl] at HWI hfs hf2
          rw [← hlv] at hfs hn1 hle hcall
          have HCALL := Lib.hid hcall
          have HFS := Lib.hid hfs
          clear hcall hfs hfl hlv
          go_wp2_with fail
          refine (HCALL.out).mono ?_
          rintro e w5 ⟨y, rfl, o5, b5⟩
          have hown5 := ownsRow_below HWI.out b5
          have hb5 : Below w4.heap.size w4 w5 := HBI.out.trans (b5.mono HBI.out.size)
          obtain ⟨p, hp⟩ : ∃ p, p = lv.length := ⟨_, rfl⟩
          rw [← hp] at o5 hn1 hle
          obtain ⟨r, capr, rfl, hr, hpr⟩ := owns_shape o5 hn1
          have hsrc : ∀ i u, (cellsS lv)[i]? = some u → w5.cell? ((⟨r, 0, none⟩ : Addr).add i) = some u := fun i u h => o5.cells rfl i u h
          have hone : ∀ u ∈ cellsS lv, u.oneCell' = true := fun u hu => by
            obtain ⟨z, _, rfl⟩ := List.mem_map.1 hu
            rfl
          have hclen : (cellsS lv).length = p * 1 := by rw [cellsS_len, ← hp]; omega
          obtain ⟨f, hf⟩ : ∃ f, f = fl.length := ⟨_, rfl⟩
          rw [← hf] at hown5 hf2
          have HO5 := Lib.hid hown5
          have HB5 := Lib.hid hb5
          have HSRC := Lib.hid hsrc
          have HONE := Lib.hid hone
          have HCL := Lib.hid hclen
          have HF := Lib.hid hf
          have HP := Lib.hid hp
          clear hown5 hb5 hsrc hone hclen hf hp HWI HBI HCALL o5 b5
          go_wp2_with (at_builtin; refine wpList_append_own _ rfl _ _ 29 rfl w4.heap.size 9 i0 (.string ⟨#[]⟩) 1 16 Tryd.underlying29 hi0 hz0 hz1 hz2 rfl (by decide) _ _ _ rfl HO5.out ⟨r, 0, none⟩ p capr (cellsS lv) rfl HCL.out HSRC.out HONE.out (by unfold maxLen; omega) (by omega) HB5.out.size ?_; intro v6 w6 hown6 hgr6 _)
          have hb6 : Below w4.heap.size w4 w6 := HB5.out.grown hgr6 HB5.out.size fun j e => ownBlock_le HO5.out j e
          have hr6 : w6.ownsRow w4.heap.size 9 1 v6 (flat hs (cs.take (j + 1))).length (cellsS (flat hs (cs.take (j + 1)))) := by
            rw [HFS.out, List.length_append, ← HF.out, ← HP.out, ← cellsS_app]
            exact hown6
          have HB6 := Lib.hid hb6
          have HR6 := Lib.hid hr6
          clear hb6 hr6 hown6 hgr6
          go_roundw
          case rel => exact ⟨j + 1, by first | rfl | go_num, by omega, HB6, HR6⟩
          case measure => simp [RowKit.intOf]; omega
        · obtain rfl : j = nc := by omega
          rw [HNC.out, List.take_length] at HWI hf2
          obtain ⟨fl, hfl⟩ : ∃ fl, fl = flat hs cs := ⟨_, rfl⟩
          have hcall := HLV.out ⟨#[]⟩ wr (by decide) (below_tr HB4.out HBI.out)
          rw [← HLAW.out, ← hfl] at hcall
          rw [← hfl] at HWI hf2
          have HBR := Lib.hid (below_tr HB4.out HBI.out)
          have HCALL := Lib.hid hcall
          have hwi := fun W hW => (RowG.owns HWI.out).below (w' := W) hW
          obtain ⟨ax, capx, rfl, _, _⟩ := owns_gen HWI.out
          have HW := Lib.hid hwi
          obtain ⟨r, hr⟩ : ∃ r, r = fl.length := ⟨_, rfl⟩
          have HR := Lib.hid hr
          rw [← hr] at HW ⊢
          clear hcall hwi hfl hr HWI HBI HLAW
          go_wp2_with fail
          refine (HCALL.out).mono ?_
          rintro e w5 ⟨y, rfl, o5, b5⟩
          have hwr := HW.out w5 b5
          rw [HR.out] at hwr
          have htx := Texts_any fl fl _ y w5 hwr (RowG.owns o5) (by omega) (by omega)
          rw [decide_eq_true rfl, ← HR.out] at htx
          obtain ⟨ay, capy, rfl, _, _⟩ := owns_gen o5
          have HTX := Lib.hid htx
          have HB5 := Lib.hid (below_tr HBR.out b5)
          clear htx o5 b5 hwr
          go_wp2_with fail
          refine (HTX.out).mono ?_
          rintro e w6 ⟨rfl, b6⟩
          have HB6 := Lib.hid (below_tr HB5.out b6)
          clear b6
          go_wp2_with (go_at_call 10; refine (HAW.out _ HB6.out).mono ?_; rintro e w7 ⟨rfl, b7⟩)
          go_ret
          exact ⟨rfl, HB2.out.trans ((below_tr HB6.out b7).mono HB2.out.size)⟩

end Go.Proofs.YtkcjnhgmilfjpaaDoor
