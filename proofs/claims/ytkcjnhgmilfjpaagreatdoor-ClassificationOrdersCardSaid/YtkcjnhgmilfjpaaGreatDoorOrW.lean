/- The walk of ClassificationOrders: the order of codes, and who lies under whom; for every list of numbers. -/
import Derived.Test.YtkcjnhgmilfjpaaGreatDoorOrM
import Derived.Test.YtkcjnhgmilfjpaaGreatDoorLvM
import Derived.Test.YtkcjnhgmilfjpaaGreatDoorClCode
import Derived.Deep.RegionHeld3
import Derived.Deep.DeepCutAuto
namespace Go.Proofs.YtkcjnhgmilfjpaaGreatDoor
open Go.RowKit Go.Lib Go.Proofs

/-- What a made classification gives every world in which only the tape has turned. -/
structure MadeT (w2 : World) (tb g cap : Nat) (hs : List Head) : Prop where
  cells : ∀ W, w2.grownBy W (some tb) → ∀ k (hk : k < hs.length), W.cell? ⟨g, k * 2, none⟩ = some (.string hs[k].1) ∧ W.cell? ⟨g, k * 2 + 1, none⟩ = some (.string hs[k].2)

theorem grownBy_cell {w w' : World} {tb g : Nat} (h : w.grownBy w' (some tb)) (hg : g < w.heap.size) (hne : g ≠ tb) (j : Nat) : w'.cell? ⟨g, j, none⟩ = w.cell? ⟨g, j, none⟩ :=
  World.cell?_of_block (h.block g hg (fun e => hne (by injection e)))

theorem madeT_tree {w w2 : World} {v : Value} {hs : List Head} {n : Nat} {ls : List (List Nat)} (ho : w2.ownsRow (w.heap.size + 1) 28 2 v hs.length (cellsH hs)) (ht : TreeHs n ls hs) (hn : n ≤ 60) :
    2 ≤ hs.length ∧ hs.length ≤ 65 ∧ ∃ g cap, v = .slice (some ⟨g, 0, none⟩) hs.length cap ∧ hs.length ≤ cap ∧ g < w2.heap.size ∧ MadeT w2 w.heap.size g cap hs := by
  have hl := tree_len ht
  have h2 := ht.pos
  have h3 := ht.len
  refine ⟨by omega, by omega, ?_⟩
  obtain ⟨g, cap, rfl, hg, hc⟩ := owns_shape ho (by omega)
  have hlt : g < w2.heap.size := (ho.lt g rfl).2
  refine ⟨g, cap, rfl, hc, hlt, ⟨fun W hW k hk => ?_⟩⟩
  obtain ⟨c1, c2⟩ := cellsH_get hs k hk
  rw [grownBy_cell hW hlt (by omega), grownBy_cell hW hlt (by omega), ho.cellAt (k * 2) (by omega), ho.cellAt (k * 2 + 1) (by omega), c1, c2]
  exact ⟨rfl, rfl⟩

/-- Only the tape has turned; the codes stand in block g. -/
structure OInv (w2 : World) (tb g m : Nat) (cs : List ByteArray) (W : World) : Prop where
  tape : TapeAt W tb
  old : w2.grownBy W (some tb)
  cells : ∀ W, w2.grownBy W (some tb) → ∀ j, j < m → W.cell? ⟨g, j * 2, none⟩ = some (.string (cs.getD j ⟨#[]⟩))
  pos : 1 ≤ m ∧ m ≤ 1000

theorem OInv.drew {w2 W : World} {tb g m : Nat} {cs : List ByteArray} (h : OInv w2 tb g m cs W) : OInv w2 tb g m cs W.drew := ⟨h.tape.below ((Below.refl _ _).drew), grownBy_trans h.old (grownBy_below ((Below.refl _ _).drew)), h.cells, h.pos⟩
theorem OInv.both {w2 W : World} {tb g m : Nat} {cs : List ByteArray} (h : OInv w2 tb g m cs W) : OInv w2 tb g m cs W ∧ ∀ j, j < m → W.cell? ⟨g, j * 2, none⟩ = some (.string (cs.getD j ⟨#[]⟩)) := ⟨h, h.cells W h.old⟩
theorem OInv.bothDrew {w2 W : World} {tb g m : Nat} {cs : List ByteArray} (h : OInv w2 tb g m cs W) : OInv w2 tb g m cs W.drew ∧ ∀ j, j < m → W.drew.cell? ⟨g, j * 2, none⟩ = some (.string (cs.getD j ⟨#[]⟩)) := h.drew.both

/-- What N hands back. -/
def OPost (w2 : World) (tb g m : Nat) (cs : List ByteArray) (e : Ending) (w' : World) : Prop := ∃ r : Nat, e = .returned (.int .i64 (r : Int)) ∧ r < m ∧ (0 : Int) ≤ (r : Int) ∧ (r : Int) < m ∧ OInv w2 tb g m cs w'

theorem N_codes {w2 W : World} {tb g m : Nat} {cs : List ByteArray} (h : OInv w2 tb g m cs W) : Calls Tryz.prog 7 #[.pointer (some ⟨tb, 0, none⟩), .int .i64 (m : Int)] W (OPost w2 tb g m cs) := by
  have hp := h.pos
  refine (N_any tb m W h.tape (by omega) (by omega)).mono fun e w' ⟨r, he, r0, r1, ht, hg⟩ => ?_
  exact ⟨r.toNat, by rw [he]; congr 1; congr 1; omega, by omega, by omega, by omega, ht, grownBy_trans h.old hg, h.cells, h.pos⟩

set_option maxRecDepth 100000 in
set_option maxHeartbeats 4000000 in
theorem lawOrders_any (v : Value) (n : Nat) (w : World) (hi : IntsAt w v n w.heap.size) (hn : n ≤ 9223372036854775807) (hL : Lay w) :
    Calls Tryz.prog 3 #[v] w fun e w' => e = .returned (.bool true) ∧ Below w.heap.size w w' := by
  have HNEW := Lib.hid (New_any v n w hi hn)
  clear hi hn
  go_enter Tryz.func3, Tryz.ntmps3
  go_wp2_with fail
  refine (HNEW.out).mono ?_
  rintro e w1 ⟨rfl, t1, b1⟩
  have HT := Lib.hid (Tree_any w.heap.size 12 w1 t1 (by omega))
  have hw1 : w.heap.size < w1.heap.size := t1.lt
  have B1 := Lib.hid b1
  have HL := Lib.hid hL
  clear t1 b1 HNEW hL
  go_wp2_with fail
  refine (HT.out).mono ?_
  rintro e w2 ⟨l, ls, hs, rfl, t2, o2, htree, g2⟩
  have hbel : ∀ W, w2.grownBy W (some w.heap.size) → Below w.heap.size w W := fun W hW => by
    have g3 := grownBy_trans g2 hW
    exact ⟨g3.os.trans B1.out.os, g3.tape.trans B1.out.tape, g3.output.trans B1.out.output, Nat.le_trans B1.out.size g3.size, fun k hk => (g3.block k (by omega) (fun e => by injection e; omega)).trans (B1.out.block k hk)⟩
  obtain ⟨hm2, hm65, g, cap, rfl, hcap, hglt, hmade⟩ := madeT_tree (w := w) (ownsRow_mono o2 (by omega)) htree (by omega)
  have HCE := Lib.hid hmade.cells
  have HTR := Lib.hid htree
  have HBEL := Lib.hid hbel
  obtain ⟨m, hm⟩ : ∃ m, m = hs.length := ⟨_, rfl⟩
  rw [← hm] at hm2 hm65 hcap ⊢
  have HM := Lib.hid hm
  obtain ⟨cs, hcs⟩ : ∃ cs, cs = texts ls := ⟨_, rfl⟩
  have hcell : ∀ W, w2.grownBy W (some w.heap.size) → ∀ j, j < m → W.cell? ⟨g, j * 2, none⟩ = some (.string (cs.getD j ⟨#[]⟩)) := fun W hW j hj => by
    have hj2 : j < hs.length := by omega
    rw [(HCE.out W hW j hj2).1, tree_code htree hj2, hcs]
    have : j < ls.length := by rw [← tree_len htree]; exact hj2
    simp [texts, List.getD_eq_getElem?_getD, this]
  have hinv : OInv w2 w.heap.size g m cs w2 := ⟨t2, grownBy_refl _ _, hcell, by omega, by omega⟩
  have HCS := Lib.hid hcs
  clear hmade o2 t2 htree g2 hbel HT B1 hm hcell hcs HCE
  go_upto_region 3 with fail
  go_cut [5, 6, 7] (fun s5 s6 s7 wx => ∃ i j k : Nat, i < m ∧ j < m ∧ k < m ∧ s5 = .string (cs.getD i ⟨#[]⟩) ∧ s6 = .string (cs.getD j ⟨#[]⟩) ∧ s7 = .string (cs.getD k ⟨#[]⟩) ∧ OInv w2 w.heap.size g m cs wx)
  case first =>
    go_region_held3 (fun W => OInv w2 w.heap.size g m cs W ∧ ∀ j, j < m → W.cell? ⟨g, j * 2, none⟩ = some (.string (cs.getD j ⟨#[]⟩))) (first | exact OInv.both (by assumption) | exact OInv.bothDrew (by assumption))
      (first | (go_at_call 7; refine (N_codes (And.left (b := ∀ j, j < m → World.cell? _ ⟨g, j * 2, none⟩ = some (.string (cs.getD j ⟨#[]⟩))) (by assumption))).mono ?_; rintro e w' ⟨r, rfl, hr15, hrz0, hrz1, hinv'⟩))
    go_wp2_with fail
    go_meet
    refine ⟨_, _, _, ?_, ?_, ?_, rfl, rfl, rfl, by assumption⟩ <;> assumption
  case rest =>
    obtain ⟨i, j, k, hi, hj, hk, rfl, rfl, rfl, hO⟩ := hcut
    have hone : ∀ i, i < m → ∃ p, GoodN p ∧ cs.getD i ⟨#[]⟩ = codeT p := fun i hi => by
      have hil : i < ls.length := by rw [← tree_len HTR.out, ← HM.out]; exact hi
      exact ⟨ls[i], HTR.out.ok.good _ (List.getElem_mem _), by rw [HCS.out]; simp [texts, List.getD_eq_getElem?_getD, hil]⟩
    obtain ⟨p, gp, ep⟩ := hone i hi
    obtain ⟨q, gq, eq⟩ := hone j hj
    obtain ⟨r, gr, er⟩ := hone k hk
    rw [ep, eq, er]
    have hb5 := HBEL.out _ hO.old
    have hlay : ∀ W, Below wc.heap.size wc W → Lay W := fun W hW => HL.out.below (hb5.trans (hW.mono hb5.size)) (Nat.le_refl _)
    have ford := ordered gp gq gr
    have zp := codeT_size gp
    have zq := codeT_size gq
    have zr := codeT_size gr
    have parts := fun W (hW : Below wc.heap.size wc W) => clParts_any (codeT p) W (hlay W hW) (by omega)
    simp only [partsN_codeT gp] at parts
    have pcode := fun v W hr => clCode_any p v W gp hr
    have caw := fun W (hW : Below wc.heap.size wc W) => awake03_any W (hlay W hW)
    have hinj : codeT p = codeT q → p = q := codeT_inj gp gq
    by_cases hpq : p = q
    · subst hpq
      have hself : underB (codeT p) (codeT p) = true := (underB_codeT gp gp).2 (List.prefix_refl _)
      have cpq := fun W (hW : Below wc.heap.size wc W) => clCompare_any (codeT p) (codeT p) W (hlay W hW) (by omega) (by omega)
      have cqr := fun W (hW : Below wc.heap.size wc W) => clCompare_any (codeT p) (codeT r) W (hlay W hW) (by omega) (by omega)
      have upq := fun W (hW : Below wc.heap.size wc W) => clUnder_any (codeT p) (codeT p) W (hlay W hW) (by omega) (by omega)
      have urp := fun W (hW : Below wc.heap.size wc W) => clUnder_any (codeT r) (codeT p) W (hlay W hW) (by omega) (by omega)
      have uqr := fun W (hW : Below wc.heap.size wc W) => clUnder_any (codeT p) (codeT r) W (hlay W hW) (by omega) (by omega)
      generalize cmpCode (codeT p) (codeT p) = x at *
      generalize cmpCode (codeT p) (codeT r) = y at *
      generalize underB (codeT p) (codeT p) = ab at *
      generalize underB (codeT r) (codeT p) = ca at *
      generalize underB (codeT p) (codeT r) = bc at *
      obtain ⟨f1, f2, f3, f4, f5, f6, f7⟩ := ford
      have Hcpq := Lib.hid cpq
      have Hcqr := Lib.hid cqr
      have Hupq := Lib.hid upq
      have Hurp := Lib.hid urp
      have Huqr := Lib.hid uqr
      have HP := Lib.hid parts
      have HCD := Lib.hid pcode
      have HB5 := Lib.hid hb5
      have HAW := Lib.hid caw
      have HB := Lib.hid (Below.refl wc.heap.size wc)
      clear hinj parts pcode hb5 caw hlay hO ep eq er hinv gp gr zp zr hone HCS HTR HBEL HL HM cpq cqr upq urp uqr
      generalize codeT p = s at *
      generalize codeT r = u at *
      obtain rfl : x = 0 := f2.2 rfl
      obtain rfl : ab = true := hself
      clear f1 f2 f3 f4 f5 f6 f7
      by_cases hy : y ≤ 0
      · cases ca <;> cases bc
        · (go_wp2_with (first | (go_at_call 8; (first | with_reducible refine (Hcpq.out _ HB.out).mono ?_ | with_reducible refine (Hcqr.out _ HB.out).mono ?_); rintro e wq ⟨rfl, bq⟩; replace HB := Lib.hid (below_then HB.out bq); clear bq) | (go_at_call 9; (first | with_reducible refine (Hupq.out _ HB.out).mono ?_ | with_reducible refine (Hurp.out _ HB.out).mono ?_ | with_reducible refine (Huqr.out _ HB.out).mono ?_); rintro e wq ⟨rfl, bq⟩; replace HB := Lib.hid (below_then HB.out bq); clear bq) | (go_at_call 11; (with_reducible refine (HP.out _ HB.out).mono ?_); rintro e wq ⟨v5, rfl, ho, bq⟩; have HV := Lib.hid (RowG.owns ho); replace HB := Lib.hid (below_then HB.out bq); clear bq ho) | (go_at_call 10; (with_reducible refine (HCD.out _ _ HV.out).mono ?_); rintro e wq ⟨rfl, bq⟩; replace HB := Lib.hid (below_then HB.out bq); clear bq) | (go_at_call 12; (with_reducible refine (HAW.out _ HB.out).mono ?_); rintro e wq ⟨rfl, bq⟩; replace HB := Lib.hid (below_then HB.out bq); clear bq)); go_ret; exact ⟨rfl, HB5.out.trans (HB.out.mono HB5.out.size)⟩)
        · (go_wp2_with (first | (go_at_call 8; (first | with_reducible refine (Hcpq.out _ HB.out).mono ?_ | with_reducible refine (Hcqr.out _ HB.out).mono ?_); rintro e wq ⟨rfl, bq⟩; replace HB := Lib.hid (below_then HB.out bq); clear bq) | (go_at_call 9; (first | with_reducible refine (Hupq.out _ HB.out).mono ?_ | with_reducible refine (Hurp.out _ HB.out).mono ?_ | with_reducible refine (Huqr.out _ HB.out).mono ?_); rintro e wq ⟨rfl, bq⟩; replace HB := Lib.hid (below_then HB.out bq); clear bq) | (go_at_call 11; (with_reducible refine (HP.out _ HB.out).mono ?_); rintro e wq ⟨v5, rfl, ho, bq⟩; have HV := Lib.hid (RowG.owns ho); replace HB := Lib.hid (below_then HB.out bq); clear bq ho) | (go_at_call 10; (with_reducible refine (HCD.out _ _ HV.out).mono ?_); rintro e wq ⟨rfl, bq⟩; replace HB := Lib.hid (below_then HB.out bq); clear bq) | (go_at_call 12; (with_reducible refine (HAW.out _ HB.out).mono ?_); rintro e wq ⟨rfl, bq⟩; replace HB := Lib.hid (below_then HB.out bq); clear bq)); go_ret; exact ⟨rfl, HB5.out.trans (HB.out.mono HB5.out.size)⟩)
        · (go_wp2_with (first | (go_at_call 8; (first | with_reducible refine (Hcpq.out _ HB.out).mono ?_ | with_reducible refine (Hcqr.out _ HB.out).mono ?_); rintro e wq ⟨rfl, bq⟩; replace HB := Lib.hid (below_then HB.out bq); clear bq) | (go_at_call 9; (first | with_reducible refine (Hupq.out _ HB.out).mono ?_ | with_reducible refine (Hurp.out _ HB.out).mono ?_ | with_reducible refine (Huqr.out _ HB.out).mono ?_); rintro e wq ⟨rfl, bq⟩; replace HB := Lib.hid (below_then HB.out bq); clear bq) | (go_at_call 11; (with_reducible refine (HP.out _ HB.out).mono ?_); rintro e wq ⟨v5, rfl, ho, bq⟩; have HV := Lib.hid (RowG.owns ho); replace HB := Lib.hid (below_then HB.out bq); clear bq ho) | (go_at_call 10; (with_reducible refine (HCD.out _ _ HV.out).mono ?_); rintro e wq ⟨rfl, bq⟩; replace HB := Lib.hid (below_then HB.out bq); clear bq) | (go_at_call 12; (with_reducible refine (HAW.out _ HB.out).mono ?_); rintro e wq ⟨rfl, bq⟩; replace HB := Lib.hid (below_then HB.out bq); clear bq)); go_ret; exact ⟨rfl, HB5.out.trans (HB.out.mono HB5.out.size)⟩)
        · (go_wp2_with (first | (go_at_call 8; (first | with_reducible refine (Hcpq.out _ HB.out).mono ?_ | with_reducible refine (Hcqr.out _ HB.out).mono ?_); rintro e wq ⟨rfl, bq⟩; replace HB := Lib.hid (below_then HB.out bq); clear bq) | (go_at_call 9; (first | with_reducible refine (Hupq.out _ HB.out).mono ?_ | with_reducible refine (Hurp.out _ HB.out).mono ?_ | with_reducible refine (Huqr.out _ HB.out).mono ?_); rintro e wq ⟨rfl, bq⟩; replace HB := Lib.hid (below_then HB.out bq); clear bq) | (go_at_call 11; (with_reducible refine (HP.out _ HB.out).mono ?_); rintro e wq ⟨v5, rfl, ho, bq⟩; have HV := Lib.hid (RowG.owns ho); replace HB := Lib.hid (below_then HB.out bq); clear bq ho) | (go_at_call 10; (with_reducible refine (HCD.out _ _ HV.out).mono ?_); rintro e wq ⟨rfl, bq⟩; replace HB := Lib.hid (below_then HB.out bq); clear bq) | (go_at_call 12; (with_reducible refine (HAW.out _ HB.out).mono ?_); rintro e wq ⟨rfl, bq⟩; replace HB := Lib.hid (below_then HB.out bq); clear bq)); go_ret; exact ⟨rfl, HB5.out.trans (HB.out.mono HB5.out.size)⟩)
      · have hy2 : 0 < y := by omega
        cases bc
        · (go_wp2_with (first | (go_at_call 8; (first | with_reducible refine (Hcpq.out _ HB.out).mono ?_ | with_reducible refine (Hcqr.out _ HB.out).mono ?_); rintro e wq ⟨rfl, bq⟩; replace HB := Lib.hid (below_then HB.out bq); clear bq) | (go_at_call 9; (first | with_reducible refine (Hupq.out _ HB.out).mono ?_ | with_reducible refine (Hurp.out _ HB.out).mono ?_ | with_reducible refine (Huqr.out _ HB.out).mono ?_); rintro e wq ⟨rfl, bq⟩; replace HB := Lib.hid (below_then HB.out bq); clear bq) | (go_at_call 11; (with_reducible refine (HP.out _ HB.out).mono ?_); rintro e wq ⟨v5, rfl, ho, bq⟩; have HV := Lib.hid (RowG.owns ho); replace HB := Lib.hid (below_then HB.out bq); clear bq ho) | (go_at_call 10; (with_reducible refine (HCD.out _ _ HV.out).mono ?_); rintro e wq ⟨rfl, bq⟩; replace HB := Lib.hid (below_then HB.out bq); clear bq) | (go_at_call 12; (with_reducible refine (HAW.out _ HB.out).mono ?_); rintro e wq ⟨rfl, bq⟩; replace HB := Lib.hid (below_then HB.out bq); clear bq)); go_ret; exact ⟨rfl, HB5.out.trans (HB.out.mono HB5.out.size)⟩)
        · (go_wp2_with (first | (go_at_call 8; (first | with_reducible refine (Hcpq.out _ HB.out).mono ?_ | with_reducible refine (Hcqr.out _ HB.out).mono ?_); rintro e wq ⟨rfl, bq⟩; replace HB := Lib.hid (below_then HB.out bq); clear bq) | (go_at_call 9; (first | with_reducible refine (Hupq.out _ HB.out).mono ?_ | with_reducible refine (Hurp.out _ HB.out).mono ?_ | with_reducible refine (Huqr.out _ HB.out).mono ?_); rintro e wq ⟨rfl, bq⟩; replace HB := Lib.hid (below_then HB.out bq); clear bq) | (go_at_call 11; (with_reducible refine (HP.out _ HB.out).mono ?_); rintro e wq ⟨v5, rfl, ho, bq⟩; have HV := Lib.hid (RowG.owns ho); replace HB := Lib.hid (below_then HB.out bq); clear bq ho) | (go_at_call 10; (with_reducible refine (HCD.out _ _ HV.out).mono ?_); rintro e wq ⟨rfl, bq⟩; replace HB := Lib.hid (below_then HB.out bq); clear bq) | (go_at_call 12; (with_reducible refine (HAW.out _ HB.out).mono ?_); rintro e wq ⟨rfl, bq⟩; replace HB := Lib.hid (below_then HB.out bq); clear bq)); go_ret; exact ⟨rfl, HB5.out.trans (HB.out.mono HB5.out.size)⟩)
    · have cpq := fun W (hW : Below wc.heap.size wc W) => clCompare_any (codeT p) (codeT q) W (hlay W hW) (by omega) (by omega)
      have cqp := fun W (hW : Below wc.heap.size wc W) => clCompare_any (codeT q) (codeT p) W (hlay W hW) (by omega) (by omega)
      have cqr := fun W (hW : Below wc.heap.size wc W) => clCompare_any (codeT q) (codeT r) W (hlay W hW) (by omega) (by omega)
      have cpr := fun W (hW : Below wc.heap.size wc W) => clCompare_any (codeT p) (codeT r) W (hlay W hW) (by omega) (by omega)
      have upq := fun W (hW : Below wc.heap.size wc W) => clUnder_any (codeT p) (codeT q) W (hlay W hW) (by omega) (by omega)
      have urp := fun W (hW : Below wc.heap.size wc W) => clUnder_any (codeT r) (codeT p) W (hlay W hW) (by omega) (by omega)
      have uqp := fun W (hW : Below wc.heap.size wc W) => clUnder_any (codeT q) (codeT p) W (hlay W hW) (by omega) (by omega)
      have uqr := fun W (hW : Below wc.heap.size wc W) => clUnder_any (codeT q) (codeT r) W (hlay W hW) (by omega) (by omega)
      have upr := fun W (hW : Below wc.heap.size wc W) => clUnder_any (codeT p) (codeT r) W (hlay W hW) (by omega) (by omega)
      generalize cmpCode (codeT p) (codeT q) = x at *
      generalize cmpCode (codeT q) (codeT p) = x' at *
      generalize cmpCode (codeT q) (codeT r) = y at *
      generalize cmpCode (codeT p) (codeT r) = z at *
      generalize underB (codeT p) (codeT q) = ab at *
      generalize underB (codeT r) (codeT p) = ca at *
      generalize underB (codeT q) (codeT p) = ba at *
      generalize underB (codeT q) (codeT r) = bc at *
      generalize underB (codeT p) (codeT r) = ac at *
      obtain ⟨f1, f2, f3, f4, f5, f6, f7⟩ := ford
      have Hcpq := Lib.hid cpq
      have Hcqp := Lib.hid cqp
      have Hcqr := Lib.hid cqr
      have Hcpr := Lib.hid cpr
      have Hupq := Lib.hid upq
      have Hurp := Lib.hid urp
      have Huqp := Lib.hid uqp
      have Huqr := Lib.hid uqr
      have Hupr := Lib.hid upr
      have HP := Lib.hid parts
      have HCD := Lib.hid pcode
      have HB5 := Lib.hid hb5
      have HAW := Lib.hid caw
      have HB := Lib.hid (Below.refl wc.heap.size wc)
      clear parts pcode hb5 caw hlay hO ep eq er hinv gp gr zp zr hone HCS HTR HBEL HL HM cpq cqp cqr cpr upq urp uqp uqr upr gq zq
      generalize codeT p = s at *
      generalize codeT q = t at *
      generalize codeT r = u at *
      have hne : s ≠ t := fun e => hpq (hinj e)
      have hx : x = -1 ∨ x = 1 := by
        rcases f3 with h | h | h
        · exact Or.inl h
        · exact absurd (f2.1 h) hne
        · exact Or.inr h
      have hbq : (s.toList == t.toList) = false := strEq_false hne
      clear hinj f3 f2
      rcases hx with rfl | rfl
      · obtain rfl : x' = 1 := by omega
        have habf : ab = false := by
          cases ab
          · rfl
          · have := f5 rfl; omega
        subst habf
        by_cases hy : y ≤ 0
        · have hz := f4 (by omega) hy
          have hba := f6 (by omega) hy
          clear f1 f4 f5 f6 f7
          cases ca
          · (go_wp2_with (first | (go_at_call 8; (first | with_reducible refine (Hcpq.out _ HB.out).mono ?_ | with_reducible refine (Hcqp.out _ HB.out).mono ?_ | with_reducible refine (Hcqr.out _ HB.out).mono ?_ | with_reducible refine (Hcpr.out _ HB.out).mono ?_); rintro e wq ⟨rfl, bq⟩; replace HB := Lib.hid (below_then HB.out bq); clear bq) | (go_at_call 9; (first | with_reducible refine (Hupq.out _ HB.out).mono ?_ | with_reducible refine (Hurp.out _ HB.out).mono ?_ | with_reducible refine (Huqp.out _ HB.out).mono ?_ | with_reducible refine (Huqr.out _ HB.out).mono ?_ | with_reducible refine (Hupr.out _ HB.out).mono ?_); rintro e wq ⟨rfl, bq⟩; replace HB := Lib.hid (below_then HB.out bq); clear bq) | (go_at_call 11; (with_reducible refine (HP.out _ HB.out).mono ?_); rintro e wq ⟨v5, rfl, ho, bq⟩; have HV := Lib.hid (RowG.owns ho); replace HB := Lib.hid (below_then HB.out bq); clear bq ho) | (go_at_call 10; (with_reducible refine (HCD.out _ _ HV.out).mono ?_); rintro e wq ⟨rfl, bq⟩; replace HB := Lib.hid (below_then HB.out bq); clear bq) | (go_at_call 12; (with_reducible refine (HAW.out _ HB.out).mono ?_); rintro e wq ⟨rfl, bq⟩; replace HB := Lib.hid (below_then HB.out bq); clear bq)); go_ret; exact ⟨rfl, HB5.out.trans (HB.out.mono HB5.out.size)⟩)
          · obtain rfl : ba = true := hba rfl
            (go_wp2_with (first | (go_at_call 8; (first | with_reducible refine (Hcpq.out _ HB.out).mono ?_ | with_reducible refine (Hcqp.out _ HB.out).mono ?_ | with_reducible refine (Hcqr.out _ HB.out).mono ?_ | with_reducible refine (Hcpr.out _ HB.out).mono ?_); rintro e wq ⟨rfl, bq⟩; replace HB := Lib.hid (below_then HB.out bq); clear bq) | (go_at_call 9; (first | with_reducible refine (Hupq.out _ HB.out).mono ?_ | with_reducible refine (Hurp.out _ HB.out).mono ?_ | with_reducible refine (Huqp.out _ HB.out).mono ?_ | with_reducible refine (Huqr.out _ HB.out).mono ?_ | with_reducible refine (Hupr.out _ HB.out).mono ?_); rintro e wq ⟨rfl, bq⟩; replace HB := Lib.hid (below_then HB.out bq); clear bq) | (go_at_call 11; (with_reducible refine (HP.out _ HB.out).mono ?_); rintro e wq ⟨v5, rfl, ho, bq⟩; have HV := Lib.hid (RowG.owns ho); replace HB := Lib.hid (below_then HB.out bq); clear bq ho) | (go_at_call 10; (with_reducible refine (HCD.out _ _ HV.out).mono ?_); rintro e wq ⟨rfl, bq⟩; replace HB := Lib.hid (below_then HB.out bq); clear bq) | (go_at_call 12; (with_reducible refine (HAW.out _ HB.out).mono ?_); rintro e wq ⟨rfl, bq⟩; replace HB := Lib.hid (below_then HB.out bq); clear bq)); go_ret; exact ⟨rfl, HB5.out.trans (HB.out.mono HB5.out.size)⟩)
        · have hy2 : 0 < y := by omega
          clear f1 f4 f5 f6 f7
          (go_wp2_with (first | (go_at_call 8; (first | with_reducible refine (Hcpq.out _ HB.out).mono ?_ | with_reducible refine (Hcqp.out _ HB.out).mono ?_ | with_reducible refine (Hcqr.out _ HB.out).mono ?_ | with_reducible refine (Hcpr.out _ HB.out).mono ?_); rintro e wq ⟨rfl, bq⟩; replace HB := Lib.hid (below_then HB.out bq); clear bq) | (go_at_call 9; (first | with_reducible refine (Hupq.out _ HB.out).mono ?_ | with_reducible refine (Hurp.out _ HB.out).mono ?_ | with_reducible refine (Huqp.out _ HB.out).mono ?_ | with_reducible refine (Huqr.out _ HB.out).mono ?_ | with_reducible refine (Hupr.out _ HB.out).mono ?_); rintro e wq ⟨rfl, bq⟩; replace HB := Lib.hid (below_then HB.out bq); clear bq) | (go_at_call 11; (with_reducible refine (HP.out _ HB.out).mono ?_); rintro e wq ⟨v5, rfl, ho, bq⟩; have HV := Lib.hid (RowG.owns ho); replace HB := Lib.hid (below_then HB.out bq); clear bq ho) | (go_at_call 10; (with_reducible refine (HCD.out _ _ HV.out).mono ?_); rintro e wq ⟨rfl, bq⟩; replace HB := Lib.hid (below_then HB.out bq); clear bq) | (go_at_call 12; (with_reducible refine (HAW.out _ HB.out).mono ?_); rintro e wq ⟨rfl, bq⟩; replace HB := Lib.hid (below_then HB.out bq); clear bq)); go_ret; exact ⟨rfl, HB5.out.trans (HB.out.mono HB5.out.size)⟩)
      · obtain rfl : x' = -1 := by omega
        clear f1 f4 f5 f6
        cases ab
        · (go_wp2_with (first | (go_at_call 8; (first | with_reducible refine (Hcpq.out _ HB.out).mono ?_ | with_reducible refine (Hcqp.out _ HB.out).mono ?_ | with_reducible refine (Hcqr.out _ HB.out).mono ?_ | with_reducible refine (Hcpr.out _ HB.out).mono ?_); rintro e wq ⟨rfl, bq⟩; replace HB := Lib.hid (below_then HB.out bq); clear bq) | (go_at_call 9; (first | with_reducible refine (Hupq.out _ HB.out).mono ?_ | with_reducible refine (Hurp.out _ HB.out).mono ?_ | with_reducible refine (Huqp.out _ HB.out).mono ?_ | with_reducible refine (Huqr.out _ HB.out).mono ?_ | with_reducible refine (Hupr.out _ HB.out).mono ?_); rintro e wq ⟨rfl, bq⟩; replace HB := Lib.hid (below_then HB.out bq); clear bq) | (go_at_call 11; (with_reducible refine (HP.out _ HB.out).mono ?_); rintro e wq ⟨v5, rfl, ho, bq⟩; have HV := Lib.hid (RowG.owns ho); replace HB := Lib.hid (below_then HB.out bq); clear bq ho) | (go_at_call 10; (with_reducible refine (HCD.out _ _ HV.out).mono ?_); rintro e wq ⟨rfl, bq⟩; replace HB := Lib.hid (below_then HB.out bq); clear bq) | (go_at_call 12; (with_reducible refine (HAW.out _ HB.out).mono ?_); rintro e wq ⟨rfl, bq⟩; replace HB := Lib.hid (below_then HB.out bq); clear bq)); go_ret; exact ⟨rfl, HB5.out.trans (HB.out.mono HB5.out.size)⟩)
        · cases bc
          · (go_wp2_with (first | (go_at_call 8; (first | with_reducible refine (Hcpq.out _ HB.out).mono ?_ | with_reducible refine (Hcqp.out _ HB.out).mono ?_ | with_reducible refine (Hcqr.out _ HB.out).mono ?_ | with_reducible refine (Hcpr.out _ HB.out).mono ?_); rintro e wq ⟨rfl, bq⟩; replace HB := Lib.hid (below_then HB.out bq); clear bq) | (go_at_call 9; (first | with_reducible refine (Hupq.out _ HB.out).mono ?_ | with_reducible refine (Hurp.out _ HB.out).mono ?_ | with_reducible refine (Huqp.out _ HB.out).mono ?_ | with_reducible refine (Huqr.out _ HB.out).mono ?_ | with_reducible refine (Hupr.out _ HB.out).mono ?_); rintro e wq ⟨rfl, bq⟩; replace HB := Lib.hid (below_then HB.out bq); clear bq) | (go_at_call 11; (with_reducible refine (HP.out _ HB.out).mono ?_); rintro e wq ⟨v5, rfl, ho, bq⟩; have HV := Lib.hid (RowG.owns ho); replace HB := Lib.hid (below_then HB.out bq); clear bq ho) | (go_at_call 10; (with_reducible refine (HCD.out _ _ HV.out).mono ?_); rintro e wq ⟨rfl, bq⟩; replace HB := Lib.hid (below_then HB.out bq); clear bq) | (go_at_call 12; (with_reducible refine (HAW.out _ HB.out).mono ?_); rintro e wq ⟨rfl, bq⟩; replace HB := Lib.hid (below_then HB.out bq); clear bq)); go_ret; exact ⟨rfl, HB5.out.trans (HB.out.mono HB5.out.size)⟩)
          · obtain rfl : ac = true := f7 rfl rfl
            (go_wp2_with (first | (go_at_call 8; (first | with_reducible refine (Hcpq.out _ HB.out).mono ?_ | with_reducible refine (Hcqp.out _ HB.out).mono ?_ | with_reducible refine (Hcqr.out _ HB.out).mono ?_ | with_reducible refine (Hcpr.out _ HB.out).mono ?_); rintro e wq ⟨rfl, bq⟩; replace HB := Lib.hid (below_then HB.out bq); clear bq) | (go_at_call 9; (first | with_reducible refine (Hupq.out _ HB.out).mono ?_ | with_reducible refine (Hurp.out _ HB.out).mono ?_ | with_reducible refine (Huqp.out _ HB.out).mono ?_ | with_reducible refine (Huqr.out _ HB.out).mono ?_ | with_reducible refine (Hupr.out _ HB.out).mono ?_); rintro e wq ⟨rfl, bq⟩; replace HB := Lib.hid (below_then HB.out bq); clear bq) | (go_at_call 11; (with_reducible refine (HP.out _ HB.out).mono ?_); rintro e wq ⟨v5, rfl, ho, bq⟩; have HV := Lib.hid (RowG.owns ho); replace HB := Lib.hid (below_then HB.out bq); clear bq ho) | (go_at_call 10; (with_reducible refine (HCD.out _ _ HV.out).mono ?_); rintro e wq ⟨rfl, bq⟩; replace HB := Lib.hid (below_then HB.out bq); clear bq) | (go_at_call 12; (with_reducible refine (HAW.out _ HB.out).mono ?_); rintro e wq ⟨rfl, bq⟩; replace HB := Lib.hid (below_then HB.out bq); clear bq)); go_ret; exact ⟨rfl, HB5.out.trans (HB.out.mono HB5.out.size)⟩)

end Go.Proofs.YtkcjnhgmilfjpaaGreatDoor
