/- A register of which a holding, or the amount of a move, was changed is not right any more: for every tape. -/
import Derived.Test.YtnfllgeneehjjaaMRzS
import Derived.Test.YtnfllgeneehjjaaMRegInv
import Derived.Test.YtnfllgeneehjjaaMG7
import Derived.Deep.DeepCutAuto
set_option linter.unusedSimpArgs false
set_option linter.unusedVariables false
set_option linter.unusedSimpArgs false
set_option linter.unusedVariables false
namespace Go.Proofs.Ytnfllgeneehjjaa
open Go.RowKit Go.Lib Go.Proofs

theorem cellsL_setAt {α : Type} {f : α → List Value} {m : Nat} (hf : Fields f m) (i : Nat) (hi : i < m) (u : Value) (x : α) : ∀ (l : List α) (j : Nat) (hj : j < l.length) (hx : f x = (f l[j]).set i u), (cellsL f l).set (j * m + i) u = cellsL f (l.set j x)
  | [], _, hj, _ => by simp at hj
  | a :: l, 0, _, hx => by
    have hl := hf.len a
    simp only [cellsL, List.set_cons_zero, Nat.zero_mul, Nat.zero_add]
    rw [List.set_append_left _ _ (by omega)]
    rw [show f x = (f a).set i u from hx]
  | a :: l, j + 1, hj, hx => by
    have hl := hf.len a
    have ih := cellsL_setAt hf i hi u x l j (by simpa using hj) hx
    simp only [cellsL, List.set_cons_succ]
    rw [List.set_append_right _ _ (by rw [hl, Nat.succ_mul]; omega), hl, show (j + 1) * m + i - m = j * m + i by rw [Nat.succ_mul]; omega, ih]
def amtM (l : List Mv) (q : Nat) : Int := if h : q < l.length then (l[q]).amt else 0
def amtH (l : List Hld) (q : Nat) : Int := if h : q < l.length then (l[q]).amt else 0
def bentM (l : List Mv) (q : Nat) : List Mv := if h : q < l.length then l.set q { l[q] with amt := l[q].amt + 100 } else l
def bentH (l : List Hld) (q : Nat) : List Hld := if h : q < l.length then l.set q { l[q] with amt := l[q].amt + 1 } else l
theorem bentM_len (l : List Mv) (q : Nat) : (bentM l q).length = l.length := by unfold bentM; split <;> simp
theorem bentH_len (l : List Hld) (q : Nat) : (bentH l q).length = l.length := by unfold bentH; split <;> simp
theorem bentM_cells (l : List Mv) (q : Nat) (h : q < l.length) : (cellsL mvC l).set (q * 7 + 6) (.int .i64 (amtM l q + 100)) = cellsL mvC (bentM l q) := by
  unfold bentM amtM
  rw [dif_pos h, dif_pos h]
  exact cellsL_setAt mvF 6 (by decide) _ _ l q h rfl
theorem bentH_cells (l : List Hld) (q : Nat) (h : q < l.length) : (cellsL hldC l).set (q * 3 + 2) (.int .i64 (amtH l q + 1)) = cellsL hldC (bentH l q) := by
  unfold bentH amtH
  rw [dif_pos h, dif_pos h]
  exact cellsL_setAt hldF 2 (by decide) _ _ l q h rfl
theorem bentM_check {r : Reg} (h : RegOk r) (q : Nat) (hq : q < r.ms.length) : checkR ⟨r.secs, r.hs, bentM r.ms q⟩ = 78 := by
  unfold checkR makesB bentM
  rw [dif_pos hq]
  rw [decide_eq_false (bent_move h q hq 100 (by decide))]
  rfl
theorem bentH_check {r : Reg} (h : RegOk r) (q : Nat) (hq : q < r.hs.length) : checkR ⟨r.secs, bentH r.hs q, r.ms⟩ = 78 := by
  unfold checkR makesB bentH
  rw [dif_pos hq]
  have hne : replayM r.secs [] Mv.zero r.ms ≠ some (r.hs.set q { r.hs[q] with amt := r.hs[q].amt + 1 }) := by
    rw [h.run]
    intro e
    injection e with e
    have h1 := congrArg (fun l => l[q]?) e
    simp only [List.getElem?_set_self hq, List.getElem?_eq_getElem hq] at h1
    injection h1 with h1
    have h2 := congrArg Hld.amt h1
    simp only at h2
    omega
  show (if decide (replayM r.secs [] Mv.zero r.ms = some _) = true then (0 : Int) else 78) = 78
  rw [decide_eq_false hne]
  rfl
theorem amtM_bound {r : Reg} (h : RegOk r) (q : Nat) (hq : q < r.ms.length) : 0 ≤ amtM r.ms q ∧ amtM r.ms q ≤ 1000000000000 := by
  unfold amtM
  rw [dif_pos hq]
  have := h.amts _ (List.getElem_mem hq)
  omega
theorem amtH_bound {r : Reg} (h : RegOk r) (q : Nat) (hq : q < r.hs.length) : 0 ≤ amtH r.hs q ∧ amtH r.hs q ≤ 1000000000000 := by
  unfold amtH
  rw [dif_pos hq]
  have := (h.runM.inv.ok.ok _ (List.getElem_mem hq)).amt
  omega

set_option maxRecDepth 100000 in
set_option maxHeartbeats 16000000 in
theorem rhbent_any (v : Value) (n : Nat) (w : World) (hi : IntsAt w v n w.heap.size) (hn : n ≤ 9223372036854775807) :
    Calls Try.prog 5 #[v] w fun e w' => e = .returned (.bool true) ∧ Below w.heap.size w w' := by
  obtain ⟨i0, hi0, hz0, hz1, hz2⟩ := info_parts Try.infoMv
  obtain ⟨k9, hk9, hy0, hy1, hy2⟩ := info_parts infoIHld
  have HNEW := Lib.hid (sNew_any v n w hi hn)
  have HSN := Lib.hid sane33_true
  clear hi hn
  go_enter Try.func5, Try.ntmps5
  go_wp2_with fail
  refine (HNEW.out).mono ?_
  rintro e w1 ⟨rfl, t1, b1⟩
  obtain ⟨tb, htb⟩ : ∃ tb, tb = w.heap.size := ⟨_, rfl⟩
  rw [← htb] at t1 ⊢
  have HRG := Lib.hid (sRegister_any tb 8 w1 t1 (by omega))
  have HFIN : Hid (∀ W, SI w1 tb W → Below w.heap.size w W) := Lib.hid fun W hW => b1.grown hW.old b1.size (fun q e => by injection e with e; omega)
  clear t1 b1 HNEW htb
  go_wp2_with fail
  with_reducible refine Calls.mono HRG.out ?_
  rintro e w2 ⟨x, y, z, r, d, rfl, hG, hs0, hs1, hml, hd, hra, hsi⟩
  obtain ⟨aX, cX, hx, -, -⟩ := hra.secs.shape secF
  obtain ⟨aY, cY, hy, -, -⟩ := hra.hs.shape hldF
  obtain ⟨aZ, cZ, hz, -, -⟩ := hra.ms.shape mvF
  obtain ⟨nX, hnX⟩ : ∃ n, n = r.secs.length := ⟨_, rfl⟩
  obtain ⟨nH, hnH⟩ : ∃ n, n = r.hs.length := ⟨_, rfl⟩
  obtain ⟨nM, hnM⟩ : ∃ n, n = r.ms.length := ⟨_, rfl⟩
  have hH8 : nH ≤ 800 := by rw [hnH]; exact hG.ok.hsLen
  have hM8 : nM ≤ 400 := by rw [hnM]; exact hG.ok.len
  have HNH := Lib.hid hnH
  have HNM := Lib.hid hnM
  rw [← hnX] at hx
  rw [← hnH] at hy
  rw [← hnM] at hz
  subst hx hy hz
  have HLM : Hid ((cellsL mvC r.ms).length = nM * 7) := Lib.hid (by rw [hnM]; exact cellsL_len mvF r.ms)
  have HLH : Hid ((cellsL hldC r.hs).length = nH * 3) := Lib.hid (by rw [hnH]; exact cellsL_len hldF r.hs)
  have HOM : Hid (∀ u ∈ cellsL mvC r.ms, u.oneCell' = true) := Lib.hid (cellsL_one mvF r.ms)
  have HOH : Hid (∀ u ∈ cellsL hldC r.hs, u.oneCell' = true) := Lib.hid (cellsL_one hldF r.hs)
  have HAMM := Lib.hid (fun q hq => amtM_bound hG.ok q hq)
  have HAMH := Lib.hid (fun q hq => amtH_bound hG.ok q hq)
  clear hnX hnH hnM
  obtain ⟨bR, hbR⟩ : ∃ b, b = w2.heap.size := ⟨_, rfl⟩
  obtain ⟨w3, hw3⟩ : ∃ W, W = w2.alloc (.cells #[.slice aX nX cX, .slice aY nH cY, .slice aZ nM cZ] 29) := ⟨_, rfl⟩
  have HI3 : Hid (RgI w1 tb bR (.slice aX nX cX) (.slice aY nH cY) (.slice aZ nM cZ) r w3) := Lib.hid (by
    rw [hw3, hbR]
    have hlt := hsi.lt
    have hsz := hsi.old.size
    exact ⟨hsi.alloc _, heap_alloc_new _ _, hra.below (below_alloc _ _), by omega, hsz⟩)
  have HG := Lib.hid hG
  clear hG hra hsi hml HRG hs0 hs1 hd
  go_upto_region 3 with fail
  rw [← hw3, ← hbR]
  clear hw3 hbR
  have hA := HI3.out.box
  have r0 := obj_cell hA 0
  have r1 := obj_cell hA 1
  have r2' := obj_cell hA 2
  simp at r0 r1 r2'
  clear hA
  by_cases hm0 : nM = 0
  · have hmz : ((nM : Int) == 0) = true := by simp [hm0]
    have HS3 := Lib.hid HI3.out.si
    clear hm0
    go_wp2_with fail
    refine (HSN.out _).mono ?_
    rintro e w10 ⟨rfl, hb10⟩
    have HE := Lib.hid (HFIN.out _ (HS3.out.below hb10))
    clear hb10
    go_wp2
    go_ret
    exact ⟨rfl, HE.out⟩
  have hmz : ((nM : Int) == 0) = false := by rw [beq_eq_false_iff_ne]; omega
  go_upto_region 5 with fail
  obtain ⟨wB, hwB⟩ : ∃ W, W = w3 := ⟨_, rfl⟩
  rw [← hwB]
  have HIB : Hid (RgI w1 tb bR (.slice aX nX cX) (.slice aY nH cY) (.slice aZ nM cZ) r wB) := Lib.hid (by rw [hwB]; exact HI3.out)
  clear hwB
  obtain ⟨bA, hbA⟩ : ∃ b, b = wB.heap.size := ⟨_, rfl⟩
  obtain ⟨w4, hw4⟩ : ∃ W, W = wB.alloc (.cells #[.slice aX nX cX, .slice aY nH cY, .slice aZ nM cZ] 29) := ⟨_, rfl⟩
  have HB4 : Hid (Below wB.heap.size wB w4) := Lib.hid (by rw [hw4]; exact below_alloc _ _)
  have HA4 : Hid (w4.heap[bA]? = some (.cells #[.slice aX nX cX, .slice aY nH cY, .slice aZ nM cZ] 29 (0, 0))) := Lib.hid (by rw [hw4, hbA]; exact heap_alloc_new _ _)
  have HBA : Hid (bA = wB.heap.size ∧ tb < wB.heap.size) := Lib.hid ⟨hbA, HIB.out.si.src.lt⟩
  have hR4 := HIB.out.box
  clear r0 r1 r2' HI3
  have r0 := obj_cell hR4 0
  have r1 := obj_cell hR4 1
  have r2' := obj_cell hR4 2
  simp at r0 r1 r2'
  clear hR4
  have HAL : Hid (bA < w4.heap.size) := Lib.hid (obj_lt HA4.out)
  have HNEWS : Hid (nM = 0 ∨ ∃ ad : Addr, aZ = some ad ∧ ∀ j u, (cellsL mvC r.ms)[j]? = some u → w4.cell? (ad.add j) = some u) := Lib.hid (newsOf mvF (ao := aZ) (n := nM) (HIB.out.reg.ms.below HB4.out))
  go_upto_region 6 with fail
  rw [← hw4, ← hbA]
  have hR4 := obj_below HIB.out.box HB4.out
  replace r0 := obj_cell hR4 0
  replace r1 := obj_cell hR4 1
  replace r2' := obj_cell hR4 2
  simp at r0 r1 r2'
  clear hR4 hw4 hbA
  have hBlt := HAL.out
  go_upto_region 7 with (at_builtin; refine wpList_ownO _ rfl _ _ 27 rfl w4.heap.size 36 i0 (.agg #[.int .i64 0, .int .i64 0, .int .i64 0, .int .i64 0, .int .i64 0, .int .i64 0, .int .i64 0]) 7 56 Try.underlying27 hi0 hz0 hz1 hz2 rfl (by decide) (.slice none 0 0) 0 [] rfl (World.ownsRow_nil _ _ _ _) aZ nM cZ (cellsL mvC r.ms) rfl HLM.out HNEWS.out HOM.out (by unfold maxLen; omega) (by omega) (Nat.le_refl _) ?_; intro v5 w5 hown5 hgr5; (rw [Nat.zero_add, List.nil_append] at hown5); (obtain ⟨g, c5, rfl, hg5, hc5⟩ := owns_shape hown5 (by omega)); (have hb5 : w5.heap[bA]? = some (.cells #[.slice aX nX cX, .slice aY nH cY, .slice aZ nM cZ] 29 (0, 0)) := (hgr5.block _ hBlt (by simp [Value.ownBlock])).trans HA4.out); (have q1 := obj_cell hb5 2); (have f1 := obj_free hb5 2); (simp at q1))
  have hb45 : Below w4.heap.size w4 w5 := below_grownBy hgr5
  obtain ⟨w6, hw6⟩ : ∃ W, W = w5.setCell ⟨bA, 2, none⟩ (.slice (some ⟨g, 0, none⟩) nM c5) := ⟨_, rfl⟩
  have hg56 : w5.grownBy w6 (some bA) := by rw [hw6]; exact setCell_grown _ _
  have HA6 : Hid (w6.heap[bA]? = some (.cells #[.slice aX nX cX, .slice aY nH cY, .slice (some ⟨g, 0, none⟩) nM c5] 29 (0, 0))) := Lib.hid (by rw [hw6]; have := obj_set hb5 2 (.slice (some ⟨g, 0, none⟩) nM c5); simpa using this)
  have hbB5 : Below wB.heap.size wB w5 := HB4.out.trans (hb45.mono HB4.out.size)
  have HB6 : Hid (Below wB.heap.size wB w6) := Lib.hid (hbB5.grown hg56 hbB5.size (fun q e => by injection e with e; have := HBA.out.1; omega))
  have HO6 : Hid (w6.ownsRow w4.heap.size 36 7 (.slice (some ⟨g, 0, none⟩) nM c5) nM (cellsL mvC r.ms)) := Lib.hid (hown5.kept hg56 (ownBlock_ne hown5 bA hBlt))
  have HGE : Hid (wB.heap.size < g) := Lib.hid (by have := HBA.out.1; omega)
  rw [← hw6]
  clear hw6 hg56 hb45 hown5 hgr5 hb5 q1 f1 hbB5 r0 r1 r2'
  obtain ⟨I, hI⟩ : ∃ I, I = fun W : World => SrcAt W tb ∧ wB.grownBy W (some tb) ∧ W.heap[bA]? = some (.cells #[.slice aX nX cX, .slice aY nH cY, .slice (some ⟨g, 0, none⟩) nM c5] 29 (0, 0)) ∧ W.ownsRow w4.heap.size 36 7 (.slice (some ⟨g, 0, none⟩) nM c5) nM (cellsL mvC r.ms) := ⟨_, rfl⟩
  have HIO : Hid (∀ W, I W → SrcAt W tb ∧ wB.grownBy W (some tb) ∧ W.heap[bA]? = some (.cells #[.slice aX nX cX, .slice aY nH cY, .slice (some ⟨g, 0, none⟩) nM c5] 29 (0, 0)) ∧ W.ownsRow w4.heap.size 36 7 (.slice (some ⟨g, 0, none⟩) nM c5) nM (cellsL mvC r.ms)) := Lib.hid fun W hW => by rw [hI] at hW; exact hW
  have HII : Hid (∀ W, SrcAt W tb → wB.grownBy W (some tb) → W.heap[bA]? = some (.cells #[.slice aX nX cX, .slice aY nH cY, .slice (some ⟨g, 0, none⟩) nM c5] 29 (0, 0)) → W.ownsRow w4.heap.size 36 7 (.slice (some ⟨g, 0, none⟩) nM c5) nM (cellsL mvC r.ms) → I W) := Lib.hid fun W h0 h1 h2 h3 => by rw [hI]; exact ⟨h0, h1, h2, h3⟩
  have HI0 : Hid (I w6) := Lib.hid (HII.out _ (HIB.out.si.src.below HB6.out) (grownBy_below HB6.out) HA6.out HO6.out)
  have HID : Hid (∀ W, I W → I W.drew) := Lib.hid fun W hW => by
    obtain ⟨h0, h1, h2, h3⟩ := HIO.out W hW
    exact HII.out _ (h0.below (Below.refl _ _).drew) (grown_step h1 (grownBy_below (Below.refl _ _).drew)) h2 h3
  have HNN : Hid (∀ W, I W → Calls Try.prog 23 #[.pointer (some ⟨tb, 0, none⟩), .int .i64 (nM : Int)] W fun e w' => ∃ qn : Nat, e = .returned (.int .i64 (qn : Int)) ∧ (qn < nM) ∧ I w' ∧ (SrcAt W tb ∧ W.grownBy w' (some tb))) := Lib.hid fun W hW => by
    obtain ⟨h0, h1, h2, h3⟩ := HIO.out W hW
    refine (n_in (si_start h0) (nM : Int) (by omega) (by omega)).mono ?_
    rintro e w' ⟨q, rfl, q0, q1, hi, hg⟩
    refine ⟨q.toNat, by rw [Int.toNat_of_nonneg q0], by omega, HII.out _ hi.src (grown_step h1 hg) (obj_turn h2 hg (by have := HBA.out; omega)) (h3.kept hg (ownBlock_ne h3 tb (by have := HAL.out; have := HBA.out; omega))), h0, hg⟩
  have HCA : Hid (∀ W, I W → ∀ i, W.cell? ⟨bA, i, none⟩ = #[.slice aX nX cX, .slice aY nH cY, .slice (some ⟨g, 0, none⟩) nM c5][i]?) := Lib.hid fun W hW i => obj_cell (HIO.out W hW).2.2.1 i
  have HCV : Hid (∀ W, I W → ∀ q, q < nM → W.cell? ⟨g, q * 7 + 6, none⟩ = some (.int .i64 (amtM r.ms q))) := Lib.hid fun W hW q hq => by
    have h := (HIO.out W hW).2.2.2.cellAt (q * 7 + 6) (by omega)
    rw [cellsL_get mvF r.ms q 6 (by rw [← HNM.out]; exact hq) (by decide)] at h
    rw [h]
    unfold amtM
    rw [dif_pos (by rw [← HNM.out]; exact hq)]
    rfl
  have HCF : Hid (∀ W, I W → ∀ i, W.frozen? ⟨g, i, none⟩ = false) := Lib.hid fun W hW i => (HIO.out W hW).2.2.2.frozenAt i
  have HCW : Hid (∀ q, q < nM → IntKind.i64.wrap (amtM r.ms q + 100) = amtM r.ms q + 100) := Lib.hid fun q hq => by
    have := HAMM.out q (by rw [← HNM.out]; exact hq)
    exact IntWalk.i64_in _ (by omega)
  obtain ⟨K1, hK⟩ : ∃ K, K = fun (q : Nat) (W : World) => RgI w1 tb bR (.slice aX nX cX) (.slice aY nH cY) (.slice aZ nM cZ) r W ∧ W.heap[bA]? = some (.cells #[.slice aX nX cX, .slice aY nH cY, .slice (some ⟨g, 0, none⟩) nM c5] 29 (0, 0)) ∧ RegAt W (.slice aX nX cX) (.slice aY nH cY) (.slice (some ⟨g, 0, none⟩) nM c5) (⟨r.secs, r.hs, bentM r.ms q⟩) := ⟨_, rfl⟩
  have HKO : Hid (∀ q W, K1 q W → RgI w1 tb bR (.slice aX nX cX) (.slice aY nH cY) (.slice aZ nM cZ) r W ∧ W.heap[bA]? = some (.cells #[.slice aX nX cX, .slice aY nH cY, .slice (some ⟨g, 0, none⟩) nM c5] 29 (0, 0)) ∧ RegAt W (.slice aX nX cX) (.slice aY nH cY) (.slice (some ⟨g, 0, none⟩) nM c5) (⟨r.secs, r.hs, bentM r.ms q⟩)) := Lib.hid fun q W h => by rw [hK] at h; exact h
  have HPUT : Hid (∀ W (q : Nat), I W → q < nM → K1 q (W.setCell ⟨g, q * 7 + 6, none⟩ (.int .i64 (amtM r.ms q + 100)))) := Lib.hid fun W q hW hq => by
    obtain ⟨h0, h1, h2, h3⟩ := HIO.out W hW
    have hg2 : W.grownBy (W.setCell ⟨g, q * 7 + 6, none⟩ (.int .i64 (amtM r.ms q + 100))) (some g) := setCell_grown _ _
    have hst := (h3.stored (q * 7 + 6) (.int .i64 (amtM r.ms q + 100))).1
    rw [bentM_cells r.ms q (by rw [← HNM.out]; exact hq)] at hst
    have hge := HGE.out
    have hba := HBA.out
    have hlst : ListAt mvC 7 (W.setCell ⟨g, q * 7 + 6, none⟩ (.int .i64 (amtM r.ms q + 100))) (.slice (some ⟨g, 0, none⟩) nM c5) (bentM r.ms q) := by
      have hst2 : (W.setCell ⟨g, q * 7 + 6, none⟩ (.int .i64 (amtM r.ms q + 100))).ownsRow w4.heap.size 36 7 (.slice (some ⟨g, 0, none⟩) nM c5) (bentM r.ms q).length (cellsL mvC (bentM r.ms q)) := by
        rw [bentM_len, ← HNM.out]; exact hst
      exact ListAt.owns hst2
    have hgB : wB.grownBy (W.setCell ⟨g, q * 7 + 6, none⟩ (.int .i64 (amtM r.ms q + 100))) (some tb) :=
      ⟨h1.os, h1.tape, h1.output, Nat.le_trans h1.size hg2.size, fun k hk hne => (hg2.block k (Nat.lt_of_lt_of_le hk h1.size) (by simp; omega)).trans (h1.block k hk hne)⟩
    have hrg := HIB.out.turn (h0.grown hg2 (fun q e => by injection e with e; omega)) hgB
    rw [hK]
    exact ⟨hrg, (hg2.block _ (obj_lt h2) (by simp; have := HAL.out; omega)).trans h2, ⟨hrg.reg.secs, hrg.reg.hs, hlst⟩⟩
  have egN := enters_of Try.func23 (by kernel_rfl) rfl
  clear hI hK HII HO6 HA6 hBlt
  obtain ⟨P, hP⟩ : ∃ P : Nat → Value → World → Prop, P = fun j v W => match j with | 0 => (v = .pointer (some ⟨bA, 2, none⟩)) | 1 => (v = .slice (some ⟨g, 0, none⟩) nM c5) | 2 => (v = .pointer (some ⟨tb, 0, none⟩)) | 3 => (v = .pointer (some ⟨bA, 2, none⟩)) | 4 => (v = .slice (some ⟨g, 0, none⟩) nM c5) | 5 => (v = .int .i64 (nM : Int)) | 6 => (∃ qn, v = .int .i64 ((qn : Nat) : Int) ∧ (qn < nM)) | _ => True := ⟨_, rfl⟩
  have HPI0 : Hid (∀ v W, P 0 v W ↔ (v = .pointer (some ⟨bA, 2, none⟩))) := Lib.hid fun v W => by rw [hP] <;> exact Iff.rfl
  have HPI1 : Hid (∀ v W, P 1 v W ↔ (v = .slice (some ⟨g, 0, none⟩) nM c5)) := Lib.hid fun v W => by rw [hP] <;> exact Iff.rfl
  have HPI2 : Hid (∀ v W, P 2 v W ↔ (v = .pointer (some ⟨tb, 0, none⟩))) := Lib.hid fun v W => by rw [hP] <;> exact Iff.rfl
  have HPI3 : Hid (∀ v W, P 3 v W ↔ (v = .pointer (some ⟨bA, 2, none⟩))) := Lib.hid fun v W => by rw [hP] <;> exact Iff.rfl
  have HPI4 : Hid (∀ v W, P 4 v W ↔ (v = .slice (some ⟨g, 0, none⟩) nM c5)) := Lib.hid fun v W => by rw [hP] <;> exact Iff.rfl
  have HPI5 : Hid (∀ v W, P 5 v W ↔ (v = .int .i64 (nM : Int))) := Lib.hid fun v W => by rw [hP] <;> exact Iff.rfl
  have HPI6 : Hid (∀ v W, P 6 v W ↔ (∃ qn, v = .int .i64 ((qn : Nat) : Int) ∧ (qn < nM))) := Lib.hid fun v W => by rw [hP] <;> exact Iff.rfl
  have HKP : Hid (∀ (j : Nat) v W W', Below W.heap.size W W' → P j v W → P j v W') := Lib.hid (by
    rw [hP]
    intro j v W W' hb h
    match j, h with
    | 0, h => exact h
    | 1, h => exact h
    | 2, h => exact h
    | 3, h => exact h
    | 4, h => exact h
    | 5, h => exact h
    | 6, ⟨qn, e, s0⟩ => exact ⟨qn, e, s0⟩
    | j + 7, _ => trivial)
  have HKT : Hid (∀ (j : Nat) v W W', SrcAt W tb → W.grownBy W' (some tb) → P j v W → P j v W') := Lib.hid (by
    rw [hP]
    intro j v W W' hs hg h
    match j, h with
    | 0, h => exact h
    | 1, h => exact h
    | 2, h => exact h
    | 3, h => exact h
    | 4, h => exact h
    | 5, h => exact h
    | 6, ⟨qn, e, s0⟩ => exact ⟨qn, e, s0⟩
    | j + 7, _ => trivial)
  clear hP
  refine wp_region_tail [25, 26, 27, 28, 29, 30, 31, 32, 33, 34, 35, 36, 37] (slotS [25, 26, 27, 28, 29, 30, 31]) (readsS [25, 26, 27, 28, 29, 30, 31]) (RP [25, 26, 27, 28, 29, 30, 31] P) I (fun k f W => match k with | 0 => (∃ qq : Nat, qq < nM ∧ f 26 = .slice (some ⟨g, 0, none⟩) nM c5 ∧ f 31 = .int .i64 (qq : Int) ∧ I W) | 1 => (∃ qq : Nat, qq < nM ∧ f 26 = .slice (some ⟨g, 0, none⟩) nM c5 ∧ f 31 = .int .i64 (qq : Int) ∧ f 32 = .pointer (some ⟨g, qq * 7, none⟩) ∧ I W) | 2 => (∃ qq : Nat, qq < nM ∧ f 26 = .slice (some ⟨g, 0, none⟩) nM c5 ∧ f 31 = .int .i64 (qq : Int) ∧ f 33 = .pointer (some ⟨g, qq * 7 + 6, none⟩) ∧ I W) | 3 => (∃ qq : Nat, qq < nM ∧ f 26 = .slice (some ⟨g, 0, none⟩) nM c5 ∧ f 31 = .int .i64 (qq : Int) ∧ f 34 = .int .i64 (amtM r.ms qq) ∧ I W) | 4 => (∃ qq : Nat, qq < nM ∧ f 26 = .slice (some ⟨g, 0, none⟩) nM c5 ∧ f 31 = .int .i64 (qq : Int) ∧ f 35 = .int .i64 (amtM r.ms qq + 100) ∧ I W) | 5 => (∃ qq : Nat, qq < nM ∧ f 35 = .int .i64 (amtM r.ms qq + 100) ∧ f 36 = .pointer (some ⟨g, qq * 7, none⟩) ∧ I W) | 6 => (∃ qq : Nat, qq < nM ∧ f 35 = .int .i64 (amtM r.ms qq + 100) ∧ f 37 = .pointer (some ⟨g, qq * 7 + 6, none⟩) ∧ I W) | _ => (∃ qq : Nat, qq < nM ∧ K1 qq W)) 7 8 (by decide) (by kernel_rfl) (by kernel_rfl) (by kernel_rfl) (by kernel_rfl) (HID.out _ HI0.out) (fun j f q v W hq h => RP.upd hq h) ?_ ?_ ?_ ?_
  case refine_1 =>
    intro iq hiq f W hIW hdep0
    have hdep : ∀ j, depB _ iq j = true → P j (f (slotS [25, 26, 27, 28, 29, 30, 31] j)) W := hdep0
    clear hdep0
    generalize ha1 : putsL _ [25, 26, 27, 28, 29, 30, 31, 32, 33, 34, 35, 36, 37] f = a1
    match iq, hiq, hdep with
    | 0, _, hdep0 =>
      have E6 : a1.tmps[6]?.getD undef = .pointer (some ⟨bA, 0, none⟩) := by rw [← ha1]; exact (putsL_out2 _ _ _ _ (by decide)).trans rfl
      exact wpOp_val rfl rfl (v := .pointer (some ⟨bA, 2, none⟩)) (w' := W) (by simp [execOp, go_sem, E6]) ⟨hIW, fun _ h => h, _, by decide, rfl, RP.set ((HPI0.out _ _).2 rfl)⟩
    | 1, _, hdep0 =>
      have hd0 := (HPI0.out _ _).1 (hdep0 0 (by kernel_rfl))
      have E25 : a1.tmps[25]?.getD undef = .pointer (some ⟨bA, 2, none⟩) := by rw [← ha1]; exact (putsL_in2 _ _ _ _ (by decide) (show 25 < 75 from by decide)).trans hd0
      have v2 : W.cell? ⟨bA, 2, none⟩ = some (.slice (some ⟨g, 0, none⟩) nM c5) := by simpa using HCA.out W hIW 2
      exact wpOp_val rfl rfl (v := .slice (some ⟨g, 0, none⟩) nM c5) (w' := W) (by simp [execOp, go_sem, E25, v2]) ⟨hIW, fun _ h => h, _, by decide, rfl, RP.set ((HPI1.out _ _).2 rfl)⟩
    | 2, _, hdep0 =>
      have E3 : a1.tmps[3]?.getD undef = .pointer (some ⟨tb, 0, none⟩) := by rw [← ha1]; exact (putsL_out2 _ _ _ _ (by decide)).trans rfl
      exact wpOp_val rfl rfl (v := .pointer (some ⟨tb, 0, none⟩)) (w' := W) (by simp [execOp, go_sem, E3]) ⟨hIW, fun _ h => h, _, by decide, rfl, RP.set ((HPI2.out _ _).2 rfl)⟩
    | 3, _, hdep0 =>
      have E6 : a1.tmps[6]?.getD undef = .pointer (some ⟨bA, 0, none⟩) := by rw [← ha1]; exact (putsL_out2 _ _ _ _ (by decide)).trans rfl
      exact wpOp_val rfl rfl (v := .pointer (some ⟨bA, 2, none⟩)) (w' := W) (by simp [execOp, go_sem, E6]) ⟨hIW, fun _ h => h, _, by decide, rfl, RP.set ((HPI3.out _ _).2 rfl)⟩
    | 4, _, hdep0 =>
      have hd3 := (HPI3.out _ _).1 (hdep0 3 (by kernel_rfl))
      have E28 : a1.tmps[28]?.getD undef = .pointer (some ⟨bA, 2, none⟩) := by rw [← ha1]; exact (putsL_in2 _ _ _ _ (by decide) (show 28 < 75 from by decide)).trans hd3
      have v2 : W.cell? ⟨bA, 2, none⟩ = some (.slice (some ⟨g, 0, none⟩) nM c5) := by simpa using HCA.out W hIW 2
      exact wpOp_val rfl rfl (v := .slice (some ⟨g, 0, none⟩) nM c5) (w' := W) (by simp [execOp, go_sem, E28, v2]) ⟨hIW, fun _ h => h, _, by decide, rfl, RP.set ((HPI4.out _ _).2 rfl)⟩
    | 5, _, hdep0 =>
      have hd4 := (HPI4.out _ _).1 (hdep0 4 (by kernel_rfl))
      have E29 : a1.tmps[29]?.getD undef = .slice (some ⟨g, 0, none⟩) nM c5 := by rw [← ha1]; exact (putsL_in2 _ _ _ _ (by decide) (show 29 < 75 from by decide)).trans hd4
      exact wpOp_val rfl rfl (v := .int .i64 (nM : Int)) (w' := W) (by simp [execOp, go_sem, E29]) ⟨hIW, fun _ h => h, _, by decide, rfl, RP.set ((HPI5.out _ _).2 rfl)⟩
    | 6, _, hdep0 =>
      have hd2 := (HPI2.out _ _).1 (hdep0 2 (by kernel_rfl))
      have hd5 := (HPI5.out _ _).1 (hdep0 5 (by kernel_rfl))
      have E27 : a1.tmps[27]?.getD undef = .pointer (some ⟨tb, 0, none⟩) := by rw [← ha1]; exact (putsL_in2 _ _ _ _ (by decide) (show 27 < 75 from by decide)).trans hd2
      have E30 : a1.tmps[30]?.getD undef = .int .i64 (nM : Int) := by rw [← ha1]; exact (putsL_in2 _ _ _ _ (by decide) (show 30 < 75 from by decide)).trans hd5
      refine wpOp_call rfl rfl (n := 23) (vs := #[.pointer (some ⟨tb, 0, none⟩), .int .i64 (nM : Int)]) (by have := egN #[.pointer (some ⟨tb, 0, none⟩), .int .i64 (nM : Int)] W; simp [execOp, E27, E30, resolve, invoke, go_sem] <;> exact this) ((HNN.out W hIW).mono fun e w' hh => (by obtain ⟨qn, rfl, p0, hJ', hb'⟩ := hh; exact ⟨_, rfl, (HPI6.out _ _).2 ⟨_, rfl, p0⟩, hJ', hb'⟩ : ∃ v, e = .returned v ∧ (P 6 v w' ∧ I w' ∧ SrcAt W tb ∧ W.grownBy w' (some tb)))) ?_
      rintro v w' ⟨hv, hI', hb'⟩
      exact ⟨hI', fun j h => HKT.out j _ _ _ hb'.1 hb'.2 h, _, by decide, rfl, RP.set hv⟩
    | iq + 7, h, _ => exact absurd h (by omega)
  case refine_2 =>
    intro f W hIW hR
    have h26 := (HPI1.out _ _).1 (hR 1 (by decide))
    have h31 := (HPI6.out _ _).1 (hR 6 (by decide))
    obtain ⟨qn, h31, hqn⟩ := h31
    exact ⟨qn, hqn, h26, h31, hIW⟩
  case refine_3 =>
    intro iq hsq hiq f W hIt0
    have hiq2 : iq < 14 := hiq
    have hIt := hIt0
    clear hIt0
    rcases (show iq = 7 ∨ iq = 8 ∨ iq = 9 ∨ iq = 10 ∨ iq = 11 ∨ iq = 12 ∨ iq = 13 by omega) with rfl | rfl | rfl | rfl | rfl | rfl | rfl
    · clear hsq hiq hiq2
      obtain ⟨qn, hqn, e1, e6, hIW⟩ := hIt
      generalize ha1 : putsL _ [25, 26, 27, 28, 29, 30, 31, 32, 33, 34, 35, 36, 37] f = a1
      have E26 : a1.tmps[26]?.getD undef = .slice (some ⟨g, 0, none⟩) nM c5 := by rw [← ha1]; exact (putsL_in2 _ _ _ _ (by decide) (show 26 < 75 from by decide)).trans e1
      have E31 : a1.tmps[31]?.getD undef = .int .i64 (qn : Int) := by rw [← ha1]; exact (putsL_in2 _ _ _ _ (by decide) (show 31 < 75 from by decide)).trans e6
      have hq0 : (0 : Int) ≤ (qn : Int) := by omega
      have hq1 : (qn : Int) < (nM : Int) := by omega
      have hnew : ∃ qq : Nat, qq < nM ∧ updF f 32 (.pointer (some ⟨g, qn * 7, none⟩)) 26 = .slice (some ⟨g, 0, none⟩) nM c5 ∧ updF f 32 (.pointer (some ⟨g, qn * 7, none⟩)) 31 = .int .i64 (qq : Int) ∧ updF f 32 (.pointer (some ⟨g, qn * 7, none⟩)) 32 = .pointer (some ⟨g, qq * 7, none⟩) ∧ I W := ⟨qn, hqn, (updF_other f _ (by decide)).trans e1, (updF_other f _ (by decide)).trans e6, updF_same _ _ _, hIW⟩
      exact wpOp_val rfl rfl (v := .pointer (some ⟨g, qn * 7, none⟩)) (w' := W) (by simp [execOp, go_sem, E26, E31, hq0, hq1]) ⟨updF f 32 (.pointer (some ⟨g, qn * 7, none⟩)), by rw [← ha1]; exact putsL_put _ _ _ _ _ (by decide), hnew⟩
    · clear hsq hiq hiq2
      obtain ⟨qn, hqn, e1, e6, e7, hIW⟩ := hIt
      generalize ha1 : putsL _ [25, 26, 27, 28, 29, 30, 31, 32, 33, 34, 35, 36, 37] f = a1
      have E32 : a1.tmps[32]?.getD undef = .pointer (some ⟨g, qn * 7, none⟩) := by rw [← ha1]; exact (putsL_in2 _ _ _ _ (by decide) (show 32 < 75 from by decide)).trans e7
      have hnew : ∃ qq : Nat, qq < nM ∧ updF f 33 (.pointer (some ⟨g, qn * 7 + 6, none⟩)) 26 = .slice (some ⟨g, 0, none⟩) nM c5 ∧ updF f 33 (.pointer (some ⟨g, qn * 7 + 6, none⟩)) 31 = .int .i64 (qq : Int) ∧ updF f 33 (.pointer (some ⟨g, qn * 7 + 6, none⟩)) 33 = .pointer (some ⟨g, qq * 7 + 6, none⟩) ∧ I W := ⟨qn, hqn, (updF_other f _ (by decide)).trans e1, (updF_other f _ (by decide)).trans e6, updF_same _ _ _, hIW⟩
      exact wpOp_val rfl rfl (v := .pointer (some ⟨g, qn * 7 + 6, none⟩)) (w' := W) (by simp [execOp, go_sem, E32]) ⟨updF f 33 (.pointer (some ⟨g, qn * 7 + 6, none⟩)), by rw [← ha1]; exact putsL_put _ _ _ _ _ (by decide), hnew⟩
    · clear hsq hiq hiq2
      obtain ⟨qn, hqn, e1, e6, e8, hIW⟩ := hIt
      generalize ha1 : putsL _ [25, 26, 27, 28, 29, 30, 31, 32, 33, 34, 35, 36, 37] f = a1
      have E33 : a1.tmps[33]?.getD undef = .pointer (some ⟨g, qn * 7 + 6, none⟩) := by rw [← ha1]; exact (putsL_in2 _ _ _ _ (by decide) (show 33 < 75 from by decide)).trans e8
      have hcv := HCV.out W hIW qn hqn
      have hnew : ∃ qq : Nat, qq < nM ∧ updF f 34 (.int .i64 (amtM r.ms qn)) 26 = .slice (some ⟨g, 0, none⟩) nM c5 ∧ updF f 34 (.int .i64 (amtM r.ms qn)) 31 = .int .i64 (qq : Int) ∧ updF f 34 (.int .i64 (amtM r.ms qn)) 34 = .int .i64 (amtM r.ms qq) ∧ I W := ⟨qn, hqn, (updF_other f _ (by decide)).trans e1, (updF_other f _ (by decide)).trans e6, updF_same _ _ _, hIW⟩
      exact wpOp_val rfl rfl (v := .int .i64 (amtM r.ms qn)) (w' := W) (by simp [execOp, go_sem, E33, hcv]) ⟨updF f 34 (.int .i64 (amtM r.ms qn)), by rw [← ha1]; exact putsL_put _ _ _ _ _ (by decide), hnew⟩
    · clear hsq hiq hiq2
      obtain ⟨qn, hqn, e1, e6, e9, hIW⟩ := hIt
      generalize ha1 : putsL _ [25, 26, 27, 28, 29, 30, 31, 32, 33, 34, 35, 36, 37] f = a1
      have E34 : a1.tmps[34]?.getD undef = .int .i64 (amtM r.ms qn) := by rw [← ha1]; exact (putsL_in2 _ _ _ _ (by decide) (show 34 < 75 from by decide)).trans e9
      have hcw := HCW.out qn hqn
      have hnew : ∃ qq : Nat, qq < nM ∧ updF f 35 (.int .i64 (amtM r.ms qn + 100)) 26 = .slice (some ⟨g, 0, none⟩) nM c5 ∧ updF f 35 (.int .i64 (amtM r.ms qn + 100)) 31 = .int .i64 (qq : Int) ∧ updF f 35 (.int .i64 (amtM r.ms qn + 100)) 35 = .int .i64 (amtM r.ms qq + 100) ∧ I W := ⟨qn, hqn, (updF_other f _ (by decide)).trans e1, (updF_other f _ (by decide)).trans e6, updF_same _ _ _, hIW⟩
      exact wpOp_val rfl rfl (v := .int .i64 (amtM r.ms qn + 100)) (w' := W) (by simp [execOp, go_sem, E34, hcw]) ⟨updF f 35 (.int .i64 (amtM r.ms qn + 100)), by rw [← ha1]; exact putsL_put _ _ _ _ _ (by decide), hnew⟩
    · clear hsq hiq hiq2
      obtain ⟨qn, hqn, e1, e6, e10, hIW⟩ := hIt
      generalize ha1 : putsL _ [25, 26, 27, 28, 29, 30, 31, 32, 33, 34, 35, 36, 37] f = a1
      have E26 : a1.tmps[26]?.getD undef = .slice (some ⟨g, 0, none⟩) nM c5 := by rw [← ha1]; exact (putsL_in2 _ _ _ _ (by decide) (show 26 < 75 from by decide)).trans e1
      have E31 : a1.tmps[31]?.getD undef = .int .i64 (qn : Int) := by rw [← ha1]; exact (putsL_in2 _ _ _ _ (by decide) (show 31 < 75 from by decide)).trans e6
      have hq0 : (0 : Int) ≤ (qn : Int) := by omega
      have hq1 : (qn : Int) < (nM : Int) := by omega
      have hnew : ∃ qq : Nat, qq < nM ∧ updF f 36 (.pointer (some ⟨g, qn * 7, none⟩)) 35 = .int .i64 (amtM r.ms qq + 100) ∧ updF f 36 (.pointer (some ⟨g, qn * 7, none⟩)) 36 = .pointer (some ⟨g, qq * 7, none⟩) ∧ I W := ⟨qn, hqn, (updF_other f _ (by decide)).trans e10, updF_same _ _ _, hIW⟩
      exact wpOp_val rfl rfl (v := .pointer (some ⟨g, qn * 7, none⟩)) (w' := W) (by simp [execOp, go_sem, E26, E31, hq0, hq1]) ⟨updF f 36 (.pointer (some ⟨g, qn * 7, none⟩)), by rw [← ha1]; exact putsL_put _ _ _ _ _ (by decide), hnew⟩
    · clear hsq hiq hiq2
      obtain ⟨qn, hqn, e10, e11, hIW⟩ := hIt
      generalize ha1 : putsL _ [25, 26, 27, 28, 29, 30, 31, 32, 33, 34, 35, 36, 37] f = a1
      have E36 : a1.tmps[36]?.getD undef = .pointer (some ⟨g, qn * 7, none⟩) := by rw [← ha1]; exact (putsL_in2 _ _ _ _ (by decide) (show 36 < 75 from by decide)).trans e11
      have hnew : ∃ qq : Nat, qq < nM ∧ updF f 37 (.pointer (some ⟨g, qn * 7 + 6, none⟩)) 35 = .int .i64 (amtM r.ms qq + 100) ∧ updF f 37 (.pointer (some ⟨g, qn * 7 + 6, none⟩)) 37 = .pointer (some ⟨g, qq * 7 + 6, none⟩) ∧ I W := ⟨qn, hqn, (updF_other f _ (by decide)).trans e10, updF_same _ _ _, hIW⟩
      exact wpOp_val rfl rfl (v := .pointer (some ⟨g, qn * 7 + 6, none⟩)) (w' := W) (by simp [execOp, go_sem, E36]) ⟨updF f 37 (.pointer (some ⟨g, qn * 7 + 6, none⟩)), by rw [← ha1]; exact putsL_put _ _ _ _ _ (by decide), hnew⟩
    · clear hsq hiq hiq2
      obtain ⟨qn, hqn, e10, e12, hIW⟩ := hIt
      generalize ha1 : putsL _ [25, 26, 27, 28, 29, 30, 31, 32, 33, 34, 35, 36, 37] f = a1
      have E35 : a1.tmps[35]?.getD undef = .int .i64 (amtM r.ms qn + 100) := by rw [← ha1]; exact (putsL_in2 _ _ _ _ (by decide) (show 35 < 75 from by decide)).trans e10
      have E37 : a1.tmps[37]?.getD undef = .pointer (some ⟨g, qn * 7 + 6, none⟩) := by rw [← ha1]; exact (putsL_in2 _ _ _ _ (by decide) (show 37 < 75 from by decide)).trans e12
      have hcv := HCV.out W hIW qn hqn
      have hcf := HCF.out W hIW (qn * 7 + 6)
      have hnew : ∃ qq : Nat, qq < nM ∧ K1 qq (W.setCell ⟨g, qn * 7 + 6, none⟩ (.int .i64 (amtM r.ms qn + 100))) := ⟨qn, hqn, HPUT.out W qn hIW hqn⟩
      exact wpOp_skip rfl rfl (w' := W.setCell ⟨g, qn * 7 + 6, none⟩ (.int .i64 (amtM r.ms qn + 100))) (by simp [execOp, go_sem, E35, E37, hcv, hcf]) ⟨f, ha1.symm, hnew⟩
  case refine_4 =>
    intro f W hIt
    simp only [putsL, List.foldl_cons, List.foldl_nil, Act.put, List.setIfInBounds_toArray, List.set_cons_zero, List.set_cons_succ]
    obtain ⟨q, hq, hK⟩ := hIt
    have HK := Lib.hid hK
    clear hK
    obtain ⟨hrg, hbox, hreg⟩ := HKO.out _ _ HK.out
    have HRG2 := Lib.hid hrg
    have HCK := Lib.hid (rxCheck_any ⟨r.secs, r.hs, bentM r.ms q⟩ _ _ _ W ⟨HG.out.ok.secs, by have := HG.out.ok.hsLen; show r.hs.length ≤ 1000000; omega, by rw [bentM_len]; exact HG.out.ok.len⟩ hreg)
    rw [bentM_check HG.out.ok q (by rw [← HNM.out]; exact hq)] at HCK
    have p0 := obj_cell hbox 0
    have p1 := obj_cell hbox 1
    have p2 := obj_cell hbox 2
    simp at p0 p1 p2
    clear hrg hbox hreg HKO HPUT HCA HCV HCF HCW HID HI0 HIO HNN
    go_wp2_with fail
    with_reducible refine Calls.mono HCK.out ?_
    rintro e w7 ⟨rfl, hb7⟩
    have HI7 := Lib.hid (HRG2.out.below hb7)
    clear hb7 p0 p1 p2 HK HRG2 HCK HIB HB4 HA4 HBA HAL HNEWS HB6 HGE
    have hA := HI7.out.box
    have r0 := obj_cell hA 0
    have r1 := obj_cell hA 1
    have r2' := obj_cell hA 2
    simp at r0 r1 r2'
    clear hA
    by_cases hh0 : nH = 0
    · have hhz : ((nH : Int) == 0) = true := by simp [hh0]
      have HS7 := Lib.hid HI7.out.si
      clear hh0
      go_wp2_with fail
      refine (HSN.out _).mono ?_
      rintro e w10 ⟨rfl, hb10⟩
      have HE := Lib.hid (HFIN.out _ (HS7.out.below hb10))
      clear hb10
      go_wp2
      go_ret
      exact ⟨rfl, HE.out⟩
    have hhz : ((nH : Int) == 0) = false := by rw [beq_eq_false_iff_ne]; omega
    go_upto_region 12 with fail
    obtain ⟨wB, hwB⟩ : ∃ W, W = w7 := ⟨_, rfl⟩
    rw [← hwB]
    have HIB : Hid (RgI w1 tb bR (.slice aX nX cX) (.slice aY nH cY) (.slice aZ nM cZ) r wB) := Lib.hid (by rw [hwB]; exact HI7.out)
    clear hwB
    obtain ⟨bA, hbA⟩ : ∃ b, b = wB.heap.size := ⟨_, rfl⟩
    obtain ⟨w4, hw4⟩ : ∃ W, W = wB.alloc (.cells #[.slice aX nX cX, .slice aY nH cY, .slice aZ nM cZ] 29) := ⟨_, rfl⟩
    have HB4 : Hid (Below wB.heap.size wB w4) := Lib.hid (by rw [hw4]; exact below_alloc _ _)
    have HA4 : Hid (w4.heap[bA]? = some (.cells #[.slice aX nX cX, .slice aY nH cY, .slice aZ nM cZ] 29 (0, 0))) := Lib.hid (by rw [hw4, hbA]; exact heap_alloc_new _ _)
    have HBA : Hid (bA = wB.heap.size ∧ tb < wB.heap.size) := Lib.hid ⟨hbA, HIB.out.si.src.lt⟩
    have hR4 := HIB.out.box
    clear r0 r1 r2' HI7
    have r0 := obj_cell hR4 0
    have r1 := obj_cell hR4 1
    have r2' := obj_cell hR4 2
    simp at r0 r1 r2'
    clear hR4
    have HAL : Hid (bA < w4.heap.size) := Lib.hid (obj_lt HA4.out)
    have HNEWS : Hid (nH = 0 ∨ ∃ ad : Addr, aY = some ad ∧ ∀ j u, (cellsL hldC r.hs)[j]? = some u → w4.cell? (ad.add j) = some u) := Lib.hid (newsOf hldF (ao := aY) (n := nH) (HIB.out.reg.hs.below HB4.out))
    go_upto_region 13 with fail
    rw [← hw4, ← hbA]
    have hR4 := obj_below HIB.out.box HB4.out
    replace r0 := obj_cell hR4 0
    replace r1 := obj_cell hR4 1
    replace r2' := obj_cell hR4 2
    simp at r0 r1 r2'
    clear hR4 hw4 hbA
    have hBlt := HAL.out
    go_upto_region 14 with (at_builtin; refine wpList_ownO _ rfl _ _ 26 rfl w4.heap.size 51 k9 (.agg #[.int .i64 0, .int .i64 0, .int .i64 0]) 3 24 Try.underlying26 hk9 hy0 hy1 hy2 rfl (by decide) (.slice none 0 0) 0 [] rfl (World.ownsRow_nil _ _ _ _) aY nH cY (cellsL hldC r.hs) rfl HLH.out HNEWS.out HOH.out (by unfold maxLen; omega) (by omega) (Nat.le_refl _) ?_; intro v5 w5 hown5 hgr5; (rw [Nat.zero_add, List.nil_append] at hown5); (obtain ⟨g, c5, rfl, hg5, hc5⟩ := owns_shape hown5 (by omega)); (have hb5 : w5.heap[bA]? = some (.cells #[.slice aX nX cX, .slice aY nH cY, .slice aZ nM cZ] 29 (0, 0)) := (hgr5.block _ hBlt (by simp [Value.ownBlock])).trans HA4.out); (have q1 := obj_cell hb5 1); (have f1 := obj_free hb5 1); (simp at q1))
    have hb45 : Below w4.heap.size w4 w5 := below_grownBy hgr5
    obtain ⟨w6, hw6⟩ : ∃ W, W = w5.setCell ⟨bA, 1, none⟩ (.slice (some ⟨g, 0, none⟩) nH c5) := ⟨_, rfl⟩
    have hg56 : w5.grownBy w6 (some bA) := by rw [hw6]; exact setCell_grown _ _
    have HA6 : Hid (w6.heap[bA]? = some (.cells #[.slice aX nX cX, .slice (some ⟨g, 0, none⟩) nH c5, .slice aZ nM cZ] 29 (0, 0))) := Lib.hid (by rw [hw6]; have := obj_set hb5 1 (.slice (some ⟨g, 0, none⟩) nH c5); simpa using this)
    have hbB5 : Below wB.heap.size wB w5 := HB4.out.trans (hb45.mono HB4.out.size)
    have HB6 : Hid (Below wB.heap.size wB w6) := Lib.hid (hbB5.grown hg56 hbB5.size (fun q e => by injection e with e; have := HBA.out.1; omega))
    have HO6 : Hid (w6.ownsRow w4.heap.size 51 3 (.slice (some ⟨g, 0, none⟩) nH c5) nH (cellsL hldC r.hs)) := Lib.hid (hown5.kept hg56 (ownBlock_ne hown5 bA hBlt))
    have HGE : Hid (wB.heap.size < g) := Lib.hid (by have := HBA.out.1; omega)
    rw [← hw6]
    clear hw6 hg56 hb45 hown5 hgr5 hb5 q1 f1 hbB5 r0 r1 r2'
    obtain ⟨I, hI⟩ : ∃ I, I = fun W : World => SrcAt W tb ∧ wB.grownBy W (some tb) ∧ W.heap[bA]? = some (.cells #[.slice aX nX cX, .slice (some ⟨g, 0, none⟩) nH c5, .slice aZ nM cZ] 29 (0, 0)) ∧ W.ownsRow w4.heap.size 51 3 (.slice (some ⟨g, 0, none⟩) nH c5) nH (cellsL hldC r.hs) := ⟨_, rfl⟩
    have HIO : Hid (∀ W, I W → SrcAt W tb ∧ wB.grownBy W (some tb) ∧ W.heap[bA]? = some (.cells #[.slice aX nX cX, .slice (some ⟨g, 0, none⟩) nH c5, .slice aZ nM cZ] 29 (0, 0)) ∧ W.ownsRow w4.heap.size 51 3 (.slice (some ⟨g, 0, none⟩) nH c5) nH (cellsL hldC r.hs)) := Lib.hid fun W hW => by rw [hI] at hW; exact hW
    have HII : Hid (∀ W, SrcAt W tb → wB.grownBy W (some tb) → W.heap[bA]? = some (.cells #[.slice aX nX cX, .slice (some ⟨g, 0, none⟩) nH c5, .slice aZ nM cZ] 29 (0, 0)) → W.ownsRow w4.heap.size 51 3 (.slice (some ⟨g, 0, none⟩) nH c5) nH (cellsL hldC r.hs) → I W) := Lib.hid fun W h0 h1 h2 h3 => by rw [hI]; exact ⟨h0, h1, h2, h3⟩
    have HI0 : Hid (I w6) := Lib.hid (HII.out _ (HIB.out.si.src.below HB6.out) (grownBy_below HB6.out) HA6.out HO6.out)
    have HID : Hid (∀ W, I W → I W.drew) := Lib.hid fun W hW => by
      obtain ⟨h0, h1, h2, h3⟩ := HIO.out W hW
      exact HII.out _ (h0.below (Below.refl _ _).drew) (grown_step h1 (grownBy_below (Below.refl _ _).drew)) h2 h3
    have HNN : Hid (∀ W, I W → Calls Try.prog 23 #[.pointer (some ⟨tb, 0, none⟩), .int .i64 (nH : Int)] W fun e w' => ∃ qn : Nat, e = .returned (.int .i64 (qn : Int)) ∧ (qn < nH) ∧ I w' ∧ (SrcAt W tb ∧ W.grownBy w' (some tb))) := Lib.hid fun W hW => by
      obtain ⟨h0, h1, h2, h3⟩ := HIO.out W hW
      refine (n_in (si_start h0) (nH : Int) (by omega) (by omega)).mono ?_
      rintro e w' ⟨q, rfl, q0, q1, hi, hg⟩
      refine ⟨q.toNat, by rw [Int.toNat_of_nonneg q0], by omega, HII.out _ hi.src (grown_step h1 hg) (obj_turn h2 hg (by have := HBA.out; omega)) (h3.kept hg (ownBlock_ne h3 tb (by have := HAL.out; have := HBA.out; omega))), h0, hg⟩
    have HCA : Hid (∀ W, I W → ∀ i, W.cell? ⟨bA, i, none⟩ = #[.slice aX nX cX, .slice (some ⟨g, 0, none⟩) nH c5, .slice aZ nM cZ][i]?) := Lib.hid fun W hW i => obj_cell (HIO.out W hW).2.2.1 i
    have HCV : Hid (∀ W, I W → ∀ q, q < nH → W.cell? ⟨g, q * 3 + 2, none⟩ = some (.int .i64 (amtH r.hs q))) := Lib.hid fun W hW q hq => by
      have h := (HIO.out W hW).2.2.2.cellAt (q * 3 + 2) (by omega)
      rw [cellsL_get hldF r.hs q 2 (by rw [← HNH.out]; exact hq) (by decide)] at h
      rw [h]
      unfold amtH
      rw [dif_pos (by rw [← HNH.out]; exact hq)]
      rfl
    have HCF : Hid (∀ W, I W → ∀ i, W.frozen? ⟨g, i, none⟩ = false) := Lib.hid fun W hW i => (HIO.out W hW).2.2.2.frozenAt i
    have HCW : Hid (∀ q, q < nH → IntKind.i64.wrap (amtH r.hs q + 1) = amtH r.hs q + 1) := Lib.hid fun q hq => by
      have := HAMH.out q (by rw [← HNH.out]; exact hq)
      exact IntWalk.i64_in _ (by omega)
    obtain ⟨K2, hK⟩ : ∃ K, K = fun (q : Nat) (W : World) => RgI w1 tb bR (.slice aX nX cX) (.slice aY nH cY) (.slice aZ nM cZ) r W ∧ W.heap[bA]? = some (.cells #[.slice aX nX cX, .slice (some ⟨g, 0, none⟩) nH c5, .slice aZ nM cZ] 29 (0, 0)) ∧ RegAt W (.slice aX nX cX) (.slice (some ⟨g, 0, none⟩) nH c5) (.slice aZ nM cZ) (⟨r.secs, bentH r.hs q, r.ms⟩) := ⟨_, rfl⟩
    have HKO : Hid (∀ q W, K2 q W → RgI w1 tb bR (.slice aX nX cX) (.slice aY nH cY) (.slice aZ nM cZ) r W ∧ W.heap[bA]? = some (.cells #[.slice aX nX cX, .slice (some ⟨g, 0, none⟩) nH c5, .slice aZ nM cZ] 29 (0, 0)) ∧ RegAt W (.slice aX nX cX) (.slice (some ⟨g, 0, none⟩) nH c5) (.slice aZ nM cZ) (⟨r.secs, bentH r.hs q, r.ms⟩)) := Lib.hid fun q W h => by rw [hK] at h; exact h
    have HPUT : Hid (∀ W (q : Nat), I W → q < nH → K2 q (W.setCell ⟨g, q * 3 + 2, none⟩ (.int .i64 (amtH r.hs q + 1)))) := Lib.hid fun W q hW hq => by
      obtain ⟨h0, h1, h2, h3⟩ := HIO.out W hW
      have hg2 : W.grownBy (W.setCell ⟨g, q * 3 + 2, none⟩ (.int .i64 (amtH r.hs q + 1))) (some g) := setCell_grown _ _
      have hst := (h3.stored (q * 3 + 2) (.int .i64 (amtH r.hs q + 1))).1
      rw [bentH_cells r.hs q (by rw [← HNH.out]; exact hq)] at hst
      have hge := HGE.out
      have hba := HBA.out
      have hlst : ListAt hldC 3 (W.setCell ⟨g, q * 3 + 2, none⟩ (.int .i64 (amtH r.hs q + 1))) (.slice (some ⟨g, 0, none⟩) nH c5) (bentH r.hs q) := by
        have hst2 : (W.setCell ⟨g, q * 3 + 2, none⟩ (.int .i64 (amtH r.hs q + 1))).ownsRow w4.heap.size 51 3 (.slice (some ⟨g, 0, none⟩) nH c5) (bentH r.hs q).length (cellsL hldC (bentH r.hs q)) := by
          rw [bentH_len, ← HNH.out]; exact hst
        exact ListAt.owns hst2
      have hgB : wB.grownBy (W.setCell ⟨g, q * 3 + 2, none⟩ (.int .i64 (amtH r.hs q + 1))) (some tb) :=
        ⟨h1.os, h1.tape, h1.output, Nat.le_trans h1.size hg2.size, fun k hk hne => (hg2.block k (Nat.lt_of_lt_of_le hk h1.size) (by simp; omega)).trans (h1.block k hk hne)⟩
      have hrg := HIB.out.turn (h0.grown hg2 (fun q e => by injection e with e; omega)) hgB
      rw [hK]
      exact ⟨hrg, (hg2.block _ (obj_lt h2) (by simp; have := HAL.out; omega)).trans h2, ⟨hrg.reg.secs, hlst, hrg.reg.ms⟩⟩
    have egN := enters_of Try.func23 (by kernel_rfl) rfl
    clear hI hK HII HO6 HA6 hBlt
    obtain ⟨P, hP⟩ : ∃ P : Nat → Value → World → Prop, P = fun j v W => match j with | 0 => (v = .pointer (some ⟨bA, 1, none⟩)) | 1 => (v = .slice (some ⟨g, 0, none⟩) nH c5) | 2 => (v = .pointer (some ⟨tb, 0, none⟩)) | 3 => (v = .pointer (some ⟨bA, 1, none⟩)) | 4 => (v = .slice (some ⟨g, 0, none⟩) nH c5) | 5 => (v = .int .i64 (nH : Int)) | 6 => (∃ qn, v = .int .i64 ((qn : Nat) : Int) ∧ (qn < nH)) | _ => True := ⟨_, rfl⟩
    have HPI0 : Hid (∀ v W, P 0 v W ↔ (v = .pointer (some ⟨bA, 1, none⟩))) := Lib.hid fun v W => by rw [hP] <;> exact Iff.rfl
    have HPI1 : Hid (∀ v W, P 1 v W ↔ (v = .slice (some ⟨g, 0, none⟩) nH c5)) := Lib.hid fun v W => by rw [hP] <;> exact Iff.rfl
    have HPI2 : Hid (∀ v W, P 2 v W ↔ (v = .pointer (some ⟨tb, 0, none⟩))) := Lib.hid fun v W => by rw [hP] <;> exact Iff.rfl
    have HPI3 : Hid (∀ v W, P 3 v W ↔ (v = .pointer (some ⟨bA, 1, none⟩))) := Lib.hid fun v W => by rw [hP] <;> exact Iff.rfl
    have HPI4 : Hid (∀ v W, P 4 v W ↔ (v = .slice (some ⟨g, 0, none⟩) nH c5)) := Lib.hid fun v W => by rw [hP] <;> exact Iff.rfl
    have HPI5 : Hid (∀ v W, P 5 v W ↔ (v = .int .i64 (nH : Int))) := Lib.hid fun v W => by rw [hP] <;> exact Iff.rfl
    have HPI6 : Hid (∀ v W, P 6 v W ↔ (∃ qn, v = .int .i64 ((qn : Nat) : Int) ∧ (qn < nH))) := Lib.hid fun v W => by rw [hP] <;> exact Iff.rfl
    have HKP : Hid (∀ (j : Nat) v W W', Below W.heap.size W W' → P j v W → P j v W') := Lib.hid (by
      rw [hP]
      intro j v W W' hb h
      match j, h with
      | 0, h => exact h
      | 1, h => exact h
      | 2, h => exact h
      | 3, h => exact h
      | 4, h => exact h
      | 5, h => exact h
      | 6, ⟨qn, e, s0⟩ => exact ⟨qn, e, s0⟩
      | j + 7, _ => trivial)
    have HKT : Hid (∀ (j : Nat) v W W', SrcAt W tb → W.grownBy W' (some tb) → P j v W → P j v W') := Lib.hid (by
      rw [hP]
      intro j v W W' hs hg h
      match j, h with
      | 0, h => exact h
      | 1, h => exact h
      | 2, h => exact h
      | 3, h => exact h
      | 4, h => exact h
      | 5, h => exact h
      | 6, ⟨qn, e, s0⟩ => exact ⟨qn, e, s0⟩
      | j + 7, _ => trivial)
    clear hP
    refine wp_region_tail [51, 52, 53, 54, 55, 56, 57, 58, 59, 60, 61, 62, 63] (slotS [51, 52, 53, 54, 55, 56, 57]) (readsS [51, 52, 53, 54, 55, 56, 57]) (RP [51, 52, 53, 54, 55, 56, 57] P) I (fun k f W => match k with | 0 => (∃ qq : Nat, qq < nH ∧ f 52 = .slice (some ⟨g, 0, none⟩) nH c5 ∧ f 57 = .int .i64 (qq : Int) ∧ I W) | 1 => (∃ qq : Nat, qq < nH ∧ f 52 = .slice (some ⟨g, 0, none⟩) nH c5 ∧ f 57 = .int .i64 (qq : Int) ∧ f 58 = .pointer (some ⟨g, qq * 3, none⟩) ∧ I W) | 2 => (∃ qq : Nat, qq < nH ∧ f 52 = .slice (some ⟨g, 0, none⟩) nH c5 ∧ f 57 = .int .i64 (qq : Int) ∧ f 59 = .pointer (some ⟨g, qq * 3 + 2, none⟩) ∧ I W) | 3 => (∃ qq : Nat, qq < nH ∧ f 52 = .slice (some ⟨g, 0, none⟩) nH c5 ∧ f 57 = .int .i64 (qq : Int) ∧ f 60 = .int .i64 (amtH r.hs qq) ∧ I W) | 4 => (∃ qq : Nat, qq < nH ∧ f 52 = .slice (some ⟨g, 0, none⟩) nH c5 ∧ f 57 = .int .i64 (qq : Int) ∧ f 61 = .int .i64 (amtH r.hs qq + 1) ∧ I W) | 5 => (∃ qq : Nat, qq < nH ∧ f 61 = .int .i64 (amtH r.hs qq + 1) ∧ f 62 = .pointer (some ⟨g, qq * 3, none⟩) ∧ I W) | 6 => (∃ qq : Nat, qq < nH ∧ f 61 = .int .i64 (amtH r.hs qq + 1) ∧ f 63 = .pointer (some ⟨g, qq * 3 + 2, none⟩) ∧ I W) | _ => (∃ qq : Nat, qq < nH ∧ K2 qq W)) 7 8 (by decide) (by kernel_rfl) (by kernel_rfl) (by kernel_rfl) (by kernel_rfl) (HID.out _ HI0.out) (fun j f q v W hq h => RP.upd hq h) ?_ ?_ ?_ ?_
    case refine_1 =>
      intro iq hiq f W hIW hdep0
      have hdep : ∀ j, depB _ iq j = true → P j (f (slotS [51, 52, 53, 54, 55, 56, 57] j)) W := hdep0
      clear hdep0
      generalize ha1 : putsL _ [51, 52, 53, 54, 55, 56, 57, 58, 59, 60, 61, 62, 63] f = a1
      match iq, hiq, hdep with
      | 0, _, hdep0 =>
        have E7 : a1.tmps[7]?.getD undef = .pointer (some ⟨bA, 0, none⟩) := by rw [← ha1]; exact (putsL_out2 _ _ _ _ (by decide)).trans rfl
        exact wpOp_val rfl rfl (v := .pointer (some ⟨bA, 1, none⟩)) (w' := W) (by simp [execOp, go_sem, E7]) ⟨hIW, fun _ h => h, _, by decide, rfl, RP.set ((HPI0.out _ _).2 rfl)⟩
      | 1, _, hdep0 =>
        have hd0 := (HPI0.out _ _).1 (hdep0 0 (by kernel_rfl))
        have E51 : a1.tmps[51]?.getD undef = .pointer (some ⟨bA, 1, none⟩) := by rw [← ha1]; exact (putsL_in2 _ _ _ _ (by decide) (show 51 < 75 from by decide)).trans hd0
        have v1 : W.cell? ⟨bA, 1, none⟩ = some (.slice (some ⟨g, 0, none⟩) nH c5) := by simpa using HCA.out W hIW 1
        exact wpOp_val rfl rfl (v := .slice (some ⟨g, 0, none⟩) nH c5) (w' := W) (by simp [execOp, go_sem, E51, v1]) ⟨hIW, fun _ h => h, _, by decide, rfl, RP.set ((HPI1.out _ _).2 rfl)⟩
      | 2, _, hdep0 =>
        have E3 : a1.tmps[3]?.getD undef = .pointer (some ⟨tb, 0, none⟩) := by rw [← ha1]; exact (putsL_out2 _ _ _ _ (by decide)).trans rfl
        exact wpOp_val rfl rfl (v := .pointer (some ⟨tb, 0, none⟩)) (w' := W) (by simp [execOp, go_sem, E3]) ⟨hIW, fun _ h => h, _, by decide, rfl, RP.set ((HPI2.out _ _).2 rfl)⟩
      | 3, _, hdep0 =>
        have E7 : a1.tmps[7]?.getD undef = .pointer (some ⟨bA, 0, none⟩) := by rw [← ha1]; exact (putsL_out2 _ _ _ _ (by decide)).trans rfl
        exact wpOp_val rfl rfl (v := .pointer (some ⟨bA, 1, none⟩)) (w' := W) (by simp [execOp, go_sem, E7]) ⟨hIW, fun _ h => h, _, by decide, rfl, RP.set ((HPI3.out _ _).2 rfl)⟩
      | 4, _, hdep0 =>
        have hd3 := (HPI3.out _ _).1 (hdep0 3 (by kernel_rfl))
        have E54 : a1.tmps[54]?.getD undef = .pointer (some ⟨bA, 1, none⟩) := by rw [← ha1]; exact (putsL_in2 _ _ _ _ (by decide) (show 54 < 75 from by decide)).trans hd3
        have v1 : W.cell? ⟨bA, 1, none⟩ = some (.slice (some ⟨g, 0, none⟩) nH c5) := by simpa using HCA.out W hIW 1
        exact wpOp_val rfl rfl (v := .slice (some ⟨g, 0, none⟩) nH c5) (w' := W) (by simp [execOp, go_sem, E54, v1]) ⟨hIW, fun _ h => h, _, by decide, rfl, RP.set ((HPI4.out _ _).2 rfl)⟩
      | 5, _, hdep0 =>
        have hd4 := (HPI4.out _ _).1 (hdep0 4 (by kernel_rfl))
        have E55 : a1.tmps[55]?.getD undef = .slice (some ⟨g, 0, none⟩) nH c5 := by rw [← ha1]; exact (putsL_in2 _ _ _ _ (by decide) (show 55 < 75 from by decide)).trans hd4
        exact wpOp_val rfl rfl (v := .int .i64 (nH : Int)) (w' := W) (by simp [execOp, go_sem, E55]) ⟨hIW, fun _ h => h, _, by decide, rfl, RP.set ((HPI5.out _ _).2 rfl)⟩
      | 6, _, hdep0 =>
        have hd2 := (HPI2.out _ _).1 (hdep0 2 (by kernel_rfl))
        have hd5 := (HPI5.out _ _).1 (hdep0 5 (by kernel_rfl))
        have E53 : a1.tmps[53]?.getD undef = .pointer (some ⟨tb, 0, none⟩) := by rw [← ha1]; exact (putsL_in2 _ _ _ _ (by decide) (show 53 < 75 from by decide)).trans hd2
        have E56 : a1.tmps[56]?.getD undef = .int .i64 (nH : Int) := by rw [← ha1]; exact (putsL_in2 _ _ _ _ (by decide) (show 56 < 75 from by decide)).trans hd5
        refine wpOp_call rfl rfl (n := 23) (vs := #[.pointer (some ⟨tb, 0, none⟩), .int .i64 (nH : Int)]) (by have := egN #[.pointer (some ⟨tb, 0, none⟩), .int .i64 (nH : Int)] W; simp [execOp, E53, E56, resolve, invoke, go_sem] <;> exact this) ((HNN.out W hIW).mono fun e w' hh => (by obtain ⟨qn, rfl, p0, hJ', hb'⟩ := hh; exact ⟨_, rfl, (HPI6.out _ _).2 ⟨_, rfl, p0⟩, hJ', hb'⟩ : ∃ v, e = .returned v ∧ (P 6 v w' ∧ I w' ∧ SrcAt W tb ∧ W.grownBy w' (some tb)))) ?_
        rintro v w' ⟨hv, hI', hb'⟩
        exact ⟨hI', fun j h => HKT.out j _ _ _ hb'.1 hb'.2 h, _, by decide, rfl, RP.set hv⟩
      | iq + 7, h, _ => exact absurd h (by omega)
    case refine_2 =>
      intro f W hIW hR
      have h52 := (HPI1.out _ _).1 (hR 1 (by decide))
      have h57 := (HPI6.out _ _).1 (hR 6 (by decide))
      obtain ⟨qn, h57, hqn⟩ := h57
      exact ⟨qn, hqn, h52, h57, hIW⟩
    case refine_3 =>
      intro iq hsq hiq f W hIt0
      have hiq2 : iq < 14 := hiq
      have hIt := hIt0
      clear hIt0
      rcases (show iq = 7 ∨ iq = 8 ∨ iq = 9 ∨ iq = 10 ∨ iq = 11 ∨ iq = 12 ∨ iq = 13 by omega) with rfl | rfl | rfl | rfl | rfl | rfl | rfl
      · clear hsq hiq hiq2
        obtain ⟨qn, hqn, e1, e6, hIW⟩ := hIt
        generalize ha1 : putsL _ [51, 52, 53, 54, 55, 56, 57, 58, 59, 60, 61, 62, 63] f = a1
        have E52 : a1.tmps[52]?.getD undef = .slice (some ⟨g, 0, none⟩) nH c5 := by rw [← ha1]; exact (putsL_in2 _ _ _ _ (by decide) (show 52 < 75 from by decide)).trans e1
        have E57 : a1.tmps[57]?.getD undef = .int .i64 (qn : Int) := by rw [← ha1]; exact (putsL_in2 _ _ _ _ (by decide) (show 57 < 75 from by decide)).trans e6
        have hq0 : (0 : Int) ≤ (qn : Int) := by omega
        have hq1 : (qn : Int) < (nH : Int) := by omega
        have hnew : ∃ qq : Nat, qq < nH ∧ updF f 58 (.pointer (some ⟨g, qn * 3, none⟩)) 52 = .slice (some ⟨g, 0, none⟩) nH c5 ∧ updF f 58 (.pointer (some ⟨g, qn * 3, none⟩)) 57 = .int .i64 (qq : Int) ∧ updF f 58 (.pointer (some ⟨g, qn * 3, none⟩)) 58 = .pointer (some ⟨g, qq * 3, none⟩) ∧ I W := ⟨qn, hqn, (updF_other f _ (by decide)).trans e1, (updF_other f _ (by decide)).trans e6, updF_same _ _ _, hIW⟩
        exact wpOp_val rfl rfl (v := .pointer (some ⟨g, qn * 3, none⟩)) (w' := W) (by simp [execOp, go_sem, E52, E57, hq0, hq1]) ⟨updF f 58 (.pointer (some ⟨g, qn * 3, none⟩)), by rw [← ha1]; exact putsL_put _ _ _ _ _ (by decide), hnew⟩
      · clear hsq hiq hiq2
        obtain ⟨qn, hqn, e1, e6, e7, hIW⟩ := hIt
        generalize ha1 : putsL _ [51, 52, 53, 54, 55, 56, 57, 58, 59, 60, 61, 62, 63] f = a1
        have E58 : a1.tmps[58]?.getD undef = .pointer (some ⟨g, qn * 3, none⟩) := by rw [← ha1]; exact (putsL_in2 _ _ _ _ (by decide) (show 58 < 75 from by decide)).trans e7
        have hnew : ∃ qq : Nat, qq < nH ∧ updF f 59 (.pointer (some ⟨g, qn * 3 + 2, none⟩)) 52 = .slice (some ⟨g, 0, none⟩) nH c5 ∧ updF f 59 (.pointer (some ⟨g, qn * 3 + 2, none⟩)) 57 = .int .i64 (qq : Int) ∧ updF f 59 (.pointer (some ⟨g, qn * 3 + 2, none⟩)) 59 = .pointer (some ⟨g, qq * 3 + 2, none⟩) ∧ I W := ⟨qn, hqn, (updF_other f _ (by decide)).trans e1, (updF_other f _ (by decide)).trans e6, updF_same _ _ _, hIW⟩
        exact wpOp_val rfl rfl (v := .pointer (some ⟨g, qn * 3 + 2, none⟩)) (w' := W) (by simp [execOp, go_sem, E58]) ⟨updF f 59 (.pointer (some ⟨g, qn * 3 + 2, none⟩)), by rw [← ha1]; exact putsL_put _ _ _ _ _ (by decide), hnew⟩
      · clear hsq hiq hiq2
        obtain ⟨qn, hqn, e1, e6, e8, hIW⟩ := hIt
        generalize ha1 : putsL _ [51, 52, 53, 54, 55, 56, 57, 58, 59, 60, 61, 62, 63] f = a1
        have E59 : a1.tmps[59]?.getD undef = .pointer (some ⟨g, qn * 3 + 2, none⟩) := by rw [← ha1]; exact (putsL_in2 _ _ _ _ (by decide) (show 59 < 75 from by decide)).trans e8
        have hcv := HCV.out W hIW qn hqn
        have hnew : ∃ qq : Nat, qq < nH ∧ updF f 60 (.int .i64 (amtH r.hs qn)) 52 = .slice (some ⟨g, 0, none⟩) nH c5 ∧ updF f 60 (.int .i64 (amtH r.hs qn)) 57 = .int .i64 (qq : Int) ∧ updF f 60 (.int .i64 (amtH r.hs qn)) 60 = .int .i64 (amtH r.hs qq) ∧ I W := ⟨qn, hqn, (updF_other f _ (by decide)).trans e1, (updF_other f _ (by decide)).trans e6, updF_same _ _ _, hIW⟩
        exact wpOp_val rfl rfl (v := .int .i64 (amtH r.hs qn)) (w' := W) (by simp [execOp, go_sem, E59, hcv]) ⟨updF f 60 (.int .i64 (amtH r.hs qn)), by rw [← ha1]; exact putsL_put _ _ _ _ _ (by decide), hnew⟩
      · clear hsq hiq hiq2
        obtain ⟨qn, hqn, e1, e6, e9, hIW⟩ := hIt
        generalize ha1 : putsL _ [51, 52, 53, 54, 55, 56, 57, 58, 59, 60, 61, 62, 63] f = a1
        have E60 : a1.tmps[60]?.getD undef = .int .i64 (amtH r.hs qn) := by rw [← ha1]; exact (putsL_in2 _ _ _ _ (by decide) (show 60 < 75 from by decide)).trans e9
        have hcw := HCW.out qn hqn
        have hnew : ∃ qq : Nat, qq < nH ∧ updF f 61 (.int .i64 (amtH r.hs qn + 1)) 52 = .slice (some ⟨g, 0, none⟩) nH c5 ∧ updF f 61 (.int .i64 (amtH r.hs qn + 1)) 57 = .int .i64 (qq : Int) ∧ updF f 61 (.int .i64 (amtH r.hs qn + 1)) 61 = .int .i64 (amtH r.hs qq + 1) ∧ I W := ⟨qn, hqn, (updF_other f _ (by decide)).trans e1, (updF_other f _ (by decide)).trans e6, updF_same _ _ _, hIW⟩
        exact wpOp_val rfl rfl (v := .int .i64 (amtH r.hs qn + 1)) (w' := W) (by simp [execOp, go_sem, E60, hcw]) ⟨updF f 61 (.int .i64 (amtH r.hs qn + 1)), by rw [← ha1]; exact putsL_put _ _ _ _ _ (by decide), hnew⟩
      · clear hsq hiq hiq2
        obtain ⟨qn, hqn, e1, e6, e10, hIW⟩ := hIt
        generalize ha1 : putsL _ [51, 52, 53, 54, 55, 56, 57, 58, 59, 60, 61, 62, 63] f = a1
        have E52 : a1.tmps[52]?.getD undef = .slice (some ⟨g, 0, none⟩) nH c5 := by rw [← ha1]; exact (putsL_in2 _ _ _ _ (by decide) (show 52 < 75 from by decide)).trans e1
        have E57 : a1.tmps[57]?.getD undef = .int .i64 (qn : Int) := by rw [← ha1]; exact (putsL_in2 _ _ _ _ (by decide) (show 57 < 75 from by decide)).trans e6
        have hq0 : (0 : Int) ≤ (qn : Int) := by omega
        have hq1 : (qn : Int) < (nH : Int) := by omega
        have hnew : ∃ qq : Nat, qq < nH ∧ updF f 62 (.pointer (some ⟨g, qn * 3, none⟩)) 61 = .int .i64 (amtH r.hs qq + 1) ∧ updF f 62 (.pointer (some ⟨g, qn * 3, none⟩)) 62 = .pointer (some ⟨g, qq * 3, none⟩) ∧ I W := ⟨qn, hqn, (updF_other f _ (by decide)).trans e10, updF_same _ _ _, hIW⟩
        exact wpOp_val rfl rfl (v := .pointer (some ⟨g, qn * 3, none⟩)) (w' := W) (by simp [execOp, go_sem, E52, E57, hq0, hq1]) ⟨updF f 62 (.pointer (some ⟨g, qn * 3, none⟩)), by rw [← ha1]; exact putsL_put _ _ _ _ _ (by decide), hnew⟩
      · clear hsq hiq hiq2
        obtain ⟨qn, hqn, e10, e11, hIW⟩ := hIt
        generalize ha1 : putsL _ [51, 52, 53, 54, 55, 56, 57, 58, 59, 60, 61, 62, 63] f = a1
        have E62 : a1.tmps[62]?.getD undef = .pointer (some ⟨g, qn * 3, none⟩) := by rw [← ha1]; exact (putsL_in2 _ _ _ _ (by decide) (show 62 < 75 from by decide)).trans e11
        have hnew : ∃ qq : Nat, qq < nH ∧ updF f 63 (.pointer (some ⟨g, qn * 3 + 2, none⟩)) 61 = .int .i64 (amtH r.hs qq + 1) ∧ updF f 63 (.pointer (some ⟨g, qn * 3 + 2, none⟩)) 63 = .pointer (some ⟨g, qq * 3 + 2, none⟩) ∧ I W := ⟨qn, hqn, (updF_other f _ (by decide)).trans e10, updF_same _ _ _, hIW⟩
        exact wpOp_val rfl rfl (v := .pointer (some ⟨g, qn * 3 + 2, none⟩)) (w' := W) (by simp [execOp, go_sem, E62]) ⟨updF f 63 (.pointer (some ⟨g, qn * 3 + 2, none⟩)), by rw [← ha1]; exact putsL_put _ _ _ _ _ (by decide), hnew⟩
      · clear hsq hiq hiq2
        obtain ⟨qn, hqn, e10, e12, hIW⟩ := hIt
        generalize ha1 : putsL _ [51, 52, 53, 54, 55, 56, 57, 58, 59, 60, 61, 62, 63] f = a1
        have E61 : a1.tmps[61]?.getD undef = .int .i64 (amtH r.hs qn + 1) := by rw [← ha1]; exact (putsL_in2 _ _ _ _ (by decide) (show 61 < 75 from by decide)).trans e10
        have E63 : a1.tmps[63]?.getD undef = .pointer (some ⟨g, qn * 3 + 2, none⟩) := by rw [← ha1]; exact (putsL_in2 _ _ _ _ (by decide) (show 63 < 75 from by decide)).trans e12
        have hcv := HCV.out W hIW qn hqn
        have hcf := HCF.out W hIW (qn * 3 + 2)
        have hnew : ∃ qq : Nat, qq < nH ∧ K2 qq (W.setCell ⟨g, qn * 3 + 2, none⟩ (.int .i64 (amtH r.hs qn + 1))) := ⟨qn, hqn, HPUT.out W qn hIW hqn⟩
        exact wpOp_skip rfl rfl (w' := W.setCell ⟨g, qn * 3 + 2, none⟩ (.int .i64 (amtH r.hs qn + 1))) (by simp [execOp, go_sem, E61, E63, hcv, hcf]) ⟨f, ha1.symm, hnew⟩
    case refine_4 =>
      intro f W hIt
      simp only [putsL, List.foldl_cons, List.foldl_nil, Act.put, List.setIfInBounds_toArray, List.set_cons_zero, List.set_cons_succ]
      obtain ⟨q, hq, hK⟩ := hIt
      have HK := Lib.hid hK
      clear hK
      obtain ⟨hrg, hbox, hreg⟩ := HKO.out _ _ HK.out
      have HRG2 := Lib.hid hrg
      have hrs : RegS ⟨r.secs, bentH r.hs q, r.ms⟩ := ⟨HG.out.ok.secs, by have := HG.out.ok.hsLen; show (bentH r.hs q).length ≤ 1000000; rw [bentH_len]; omega, HG.out.ok.len⟩
      have HRB := Lib.hid hreg
      have HCK := Lib.hid (rxCheck_any ⟨r.secs, bentH r.hs q, r.ms⟩ _ _ _ W hrs hreg)
      have hck := bentH_check HG.out.ok q (by rw [← HNH.out]; exact hq)
      have HDE := Lib.hid (fun W' (hW : Below W.heap.size W W') => rxDebt_any ⟨r.secs, bentH r.hs q, r.ms⟩ _ _ _ W' hrs (HRB.out.below hW))
      unfold debtR at HDE
      rw [hck, if_neg (by decide)] at HDE
      rw [hck] at HCK
      have HBX := Lib.hid hbox
      have p0 := obj_cell hbox 0
      have p1 := obj_cell hbox 1
      have p2 := obj_cell hbox 2
      simp at p0 p1 p2
      clear hrg hbox hreg HKO HPUT HCA HCV HCF HCW HID HI0 HIO HNN hck hrs
      go_wp2_with fail
      with_reducible refine Calls.mono HCK.out ?_
      rintro e w8 ⟨rfl, hb8⟩
      have hbox := obj_below HBX.out hb8
      have HB8 := Lib.hid hb8
      clear hb8 p0 p1 p2 HK HCK HIB HB4 HA4 HBA HAL HNEWS HB6 HGE
      have p0 := obj_cell hbox 0
      have p1 := obj_cell hbox 1
      have p2 := obj_cell hbox 2
      simp at p0 p1 p2
      clear hbox
      go_wp2_with fail
      with_reducible refine Calls.mono (HDE.out _ HB8.out) ?_
      rintro e w9 ⟨rfl, hb9⟩
      have HS9 := Lib.hid ((HRG2.out.si.below HB8.out).below hb9)
      clear hb9 p0 p1 p2
      go_wp2_with fail
      refine (HSN.out _).mono ?_
      rintro e w10 ⟨rfl, hb10⟩
      have HE := Lib.hid (HFIN.out _ (HS9.out.below hb10))
      clear hb10
      go_wp2
      go_ret
      exact ⟨rfl, HE.out⟩



end Go.Proofs.Ytnfllgeneehjjaa
