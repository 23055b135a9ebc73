/- Texts of one claim, merged: AuB, AcuR, AcuC. -/
import Derived.Test.YtknmgkjfopoinaaGreatDoorMAuA
import Derived.Test.YtknmgkjfopoinaaGreatDoorMAuC
import Derived.Test.YtknmgkjfopoinaaGreatDoorMG1
import Derived.Test.YtknmgkjfopoinaaGreatDoorMG7
/- accrual.Close of right books, a right closing, with amounts that can be: what Adjust makes stands behind the books. -/
set_option linter.unusedSimpArgs false
set_option linter.unusedVariables false
set_option linter.unusedSimpArgs false
set_option linter.unusedVariables false
namespace Go.Proofs.YtknmgkjfopoinaaGreatDoor
open Go.RowKit Go.Lib Go.Proofs

theorem tri_at (w : World) (a b c : Obj) : (((w.alloc a).alloc b).alloc c).heap[w.heap.size + 2]? = some c := by
  have := heap_alloc_new ((w.alloc a).alloc b) c
  simpa using this
theorem tri_at1 (w : World) (a b c : Obj) : (((w.alloc a).alloc b).alloc c).heap[w.heap.size + 1]? = some b := (Below.heap_alloc _ _ _ (by simp only [World.size_alloc]; omega)).trans (alloc2_at w a b)
theorem tri_at0 (w : World) (a b c : Obj) : (((w.alloc a).alloc b).alloc c).heap[w.heap.size]? = some a := (Below.heap_alloc _ _ _ (by simp only [World.size_alloc]; omega)).trans (alloc1_at w a b)
theorem tri_below (w : World) (a b c : Obj) : Below w.heap.size w (((w.alloc a).alloc b).alloc c) := (below2 w a b).alloc (by simp only [World.size_alloc]; omega) _

set_option maxRecDepth 100000 in
set_option maxHeartbeats 8000000 in
theorem aaClose_right {l : List Pst} (h : LdgOk l) {cl : List Clm} (hok : ∀ x ∈ cl, ClmG x) (hcl : cl.length ≤ 60) {ent d i u p : Int} (he : 1 ≤ ent ∧ ent ≤ 10) (hd0 : 0 ≤ d) (hday : (lastP l).day ≤ d) (hd : d ≤ 36000) (hi : 0 ≤ i ∧ i ≤ 1000000000000) (hu : 0 ≤ u ∧ u ≤ 1000000000000) (hp : 0 ≤ p ∧ p ≤ 1000000000000)
    (c b : Int) (hc : c = openC cl - ofM ent (byDay d) 120 l) (hb : b = -provM d cl - ofM ent (byDay d) 119 l) (hcb : -1000000000000 ≤ c ∧ c ≤ 1000000000000) (hbb : -1000000000000 ≤ b ∧ b ≤ 1000000000000) (hlen : l.length + 5 ≤ 400) (vl vc : Value) (w : World) (hL : Lay w) (hvl : PstsAt w vl l) (hvc : ListAt clmC 6 w vc cl) :
    Calls Tryz.prog 10 #[.agg #[vl], .int .i64 ent, .int .i64 d, .agg #[.int .i64 i, .int .i64 u, .int .i64 p, vc]] w fun en w' => ∃ v, en = .returned (.tuple #[.agg #[v], .int .i64 0]) ∧ PstsAt w' v (closeM l ent d i u p c b) ∧ Below w.heap.size w w' := by
  obtain ⟨al, capl, rfl, hcapl, -⟩ := hvl.open
  obtain ⟨ac, capc, rfl, hcapc, -⟩ := hvc.shape clmF
  have HAD := Lib.hid (fun W (hW : Below w.heap.size w W) => aaAdjust_right h hok hcl he hd0 hday hd hi hu hp c b hc hb hcb hbb hlen (.slice al l.length capl) (.slice ac cl.length capc) W (hL.below hW (Nat.le_refl _)) (hvl.below hW) (hvc.below hW))
  have HVL := Lib.hid (fun W (hW : Below w.heap.size w W) => hvl.below hW)
  obtain ⟨K, hK⟩ : ∃ K, K = numP l.length d ent (keptP (fiveP i u p c b)) := ⟨_, rfl⟩
  have hkl : (keptP (fiveP i u p c b)).length = K.length := by rw [hK, numP_len]
  have hk5 : K.length ≤ 5 := by rw [← hkl]; exact kept_len _
  have HCM : Hid (closeM l ent d i u p c b = l ++ K) := Lib.hid (by unfold closeM; rw [hK])
  rw [← hK, hkl] at HAD
  rw [HCM.out]
  have HCC := Lib.hid (fun (va vb : Value) (g cap : Nat) (W : World) h0 h1 hA hB => ConcatPst_any l K (by omega) (by omega) va vb g cap W h0 h1 hA hB)
  obtain ⟨n0, hn0⟩ : ∃ n, n = l.length := ⟨_, rfl⟩
  obtain ⟨m0, hm0⟩ : ∃ n, n = cl.length := ⟨_, rfl⟩
  obtain ⟨nK, hnK⟩ : ∃ n, n = K.length := ⟨_, rfl⟩
  rw [← hn0] at HAD HVL ⊢
  rw [← hm0] at HAD ⊢
  rw [← hnK] at HAD
  have HN0 := Lib.hid hn0
  have HNK := Lib.hid hnK
  obtain ⟨w0, hw0⟩ : ∃ W, W = ((w.alloc (.cells #[.slice al n0 capl] 27)).alloc (.cells #[.int .i64 i, .int .i64 u, .int .i64 p, .slice ac m0 capc] 31)).alloc (.cells #[.slice none 0 0] 27) := ⟨_, rfl⟩
  obtain ⟨bX, hbX⟩ : ∃ q, q = w.heap.size := ⟨_, rfl⟩
  obtain ⟨bY, hbY⟩ : ∃ q, q = w.heap.size + 1 := ⟨_, rfl⟩
  obtain ⟨bR, hbR⟩ : ∃ q, q = w.heap.size + 2 := ⟨_, rfl⟩
  have HB0 : Hid (Below w.heap.size w w0) := Lib.hid (by rw [hw0]; exact tri_below w _ _ _)
  have HX0 : Hid (w0.heap[bX]? = some (.cells #[.slice al n0 capl] 27 (0, 0))) := Lib.hid (by rw [hw0, hbX]; exact tri_at0 w _ _ _)
  have HY0 : Hid (w0.heap[bY]? = some (.cells #[.int .i64 i, .int .i64 u, .int .i64 p, .slice ac m0 capc] 31 (0, 0))) := Lib.hid (by rw [hw0, hbY]; exact tri_at1 w _ _ _)
  have HR0 : Hid (w0.heap[bR]? = some (.cells #[.slice none 0 0] 27 (0, 0))) := Lib.hid (by rw [hw0, hbR]; exact tri_at w _ _ _)
  have HW0 := Lib.hid hw0
  have HBX := Lib.hid hbX
  have HBY := Lib.hid hbY
  have HBR := Lib.hid hbR
  have hx := HX0.out
  have hy := HY0.out
  have a0 := obj_cell hx 0
  have y0 := obj_cell hy 0
  have y1 := obj_cell hy 1
  have y2 := obj_cell hy 2
  have y3 := obj_cell hy 3
  simp at a0 y0 y1 y2 y3
  clear h hok hvl hvc hL hK hn0 hm0 hnK hkl hc hb hw0 hbX hbY hbR hi hu hp hx hy hcb hbb hday
  go_enter Tryz.func10, Tryz.ntmps10
  go_upto_region 1 with fail
  rw [← HW0.out, ← HBR.out, ← HBY.out, ← HBX.out]
  go_wp2_with fail
  clear a0 y0 y1 y2 y3
  refine (HAD.out _ HB0.out).mono ?_
  rintro en w1 ⟨v, rfl, hown1, hb1⟩
  have HB1 := Lib.hid (HB0.out.trans (hb1.mono HB0.out.size))
  have HX1 := Lib.hid (obj_below HX0.out hb1)
  have HR1 := Lib.hid (obj_below HR0.out hb1)
  obtain ⟨aK, cK, rfl, hncK, -⟩ := owns_gen hown1
  have hL1 := ListAt.owns (f := pstC) (l := K) (by rw [← HNK.out]; exact hown1)
  have HL1 := Lib.hid hL1
  have hx := HX1.out
  have a0 := obj_cell hx 0
  simp at a0
  obtain ⟨gq, hgq⟩ : ∃ z, z = w1.heap.size := ⟨_, rfl⟩
  obtain ⟨w2, hw2⟩ : ∃ W, W = w1.alloc (.cells #[.slice al n0 capl, .slice aK nK cK] 25) := ⟨_, rfl⟩
  have hb2 : Below w1.heap.size w1 w2 := by rw [hw2]; exact below_alloc _ _
  have HB2 := Lib.hid (HB1.out.trans (hb2.mono HB1.out.size))
  have HR2 := Lib.hid (obj_below HR1.out hb2)
  have hq2 : w2.heap[gq]? = some (.cells #[.slice al n0 capl, .slice aK nK cK] 25 (0, 0)) := by rw [hw2, hgq]; exact heap_alloc_new _ _
  have k0 := obj_cell hq2 0
  have k1 := obj_cell hq2 1
  simp at k0 k1
  have HCON := Lib.hid (HCC.out (.slice al n0 capl) (.slice aK nK cK) gq 2 w2 k0 k1 (by have := HVL.out w2 HB2.out; exact this) (HL1.out.below hb2))
  have HW2 := Lib.hid hw2
  have HGQ := Lib.hid hgq
  have hr2 := HR2.out
  clear hx hgq hw2 hb2 hq2 k0 k1 hb1 hown1 hL1 HAD HCC HVL HL1
  go_wp2_with fail
  rw [← HW2.out, ← HGQ.out]
  refine (HCON.out).mono ?_
  rintro en w3 ⟨v3, rfl, hown3, hb3⟩
  obtain ⟨a3, c3, rfl, -, -⟩ := owns_gen hown3
  have HB3 := Lib.hid (HB2.out.trans (hb3.mono HB2.out.size))
  have hr3 := obj_below hr2 hb3
  have hblt := obj_lt hr2
  have p0 := obj_cell hr3 0
  have f0 := obj_free hr3 0
  simp at p0
  obtain ⟨nn, hnn⟩ : ∃ q, q = l.length + K.length := ⟨_, rfl⟩
  have hll : (l ++ K).length = nn := by rw [List.length_append, hnn]
  rw [← hnn] at hown3 ⊢
  have hg : w3.grownBy (w3.setCell ⟨bR, 0, none⟩ (.slice a3 nn c3)) (some bR) := setCell_grown _ _
  have hset := obj_set hr3 0 (.slice a3 nn c3)
  simp only [List.setIfInBounds_toArray, List.set_cons_zero] at hset
  have HL3 : Hid (PstsAt (w3.setCell ⟨bR, 0, none⟩ (.slice a3 nn c3)) (.slice a3 nn c3) (l ++ K)) := Lib.hid (ListAt.owns (base := w2.heap.size) (e := 57) (by rw [hll]; exact hown3.kept hg (ownBlock_ne hown3 bR hblt)))
  have HB4 : Hid (Below w.heap.size w (w3.setCell ⟨bR, 0, none⟩ (.slice a3 nn c3))) := Lib.hid (HB3.out.setCell (by rw [HBR.out]; show w.heap.size ≤ w.heap.size + 2; omega) _)
  have q0 := obj_cell hset 0
  simp at q0
  clear hown3 hb3 hr3 hr2 hblt hnn hll hg hset
  go_wp2
  refine bodyPost_ret (v := .tuple #[.agg #[.slice a3 nn c3], .int .i64 0]) (by simp [results, Tryz.results10, go_sem, q0]) rfl ⟨_, rfl, HL3.out, HB4.out⟩

end Go.Proofs.YtknmgkjfopoinaaGreatDoor

/- Reopening the books, as mathematics: what is turned, and what that does to the balances; of no function of the program; no condition. -/
set_option linter.unusedSimpArgs false
set_option linter.unusedVariables false
namespace Go.Proofs.YtknmgkjfopoinaaGreatDoor
open Go.RowKit Go.Lib Go.Proofs

/-- What a closing of entity e on day d has left to be turned. -/
def pickT (e d : Int) (l : List Pst) : List Pst := l.filter fun p => decide (p.ent = e) && decide (p.day = d) && decide (p.ref = 1000000)
def numT (n d : Int) : List Pst → List Pst
  | [] => []
  | p :: l => ⟨n + 1, d, p.ent, p.crd, p.deb, p.amt, p.par, p.ref⟩ :: numT (n + 1) d l
def turnM (l : List Pst) (e d : Int) : List Pst := l ++ numT l.length (d + 1) (pickT e d l)
theorem numT_len (d : Int) : ∀ (n : Int) (l : List Pst), (numT n d l).length = l.length
  | _, [] => rfl
  | n, p :: l => by rw [numT, List.length_cons, numT_len d (n + 1) l, List.length_cons]
theorem ofM_numT (x : Int) (f : Int → Bool) (t d e : Int) : ∀ (n : Int) (l : List Pst), (∀ p ∈ l, p.ent = e) → ofM x f t (numT n d l) = if (x = 0 ∨ e = x) ∧ f d = true then -sumN t l else 0
  | _, [], _ => by simp [numT, ofM, sumN]
  | n, p :: l, h => by
    rw [numT, ofM, ofM_numT x f t d e (n + 1) l fun q hq => h q (List.mem_cons_of_mem _ hq), sumN]
    have he := h p List.mem_cons_self
    have h1 : netP t ⟨n + 1, d, p.ent, p.crd, p.deb, p.amt, p.par, p.ref⟩ = -netP t p := by unfold netP; simp only; omega
    have h2 : hitE x ⟨n + 1, d, p.ent, p.crd, p.deb, p.amt, p.par, p.ref⟩ = (decide (x = 0) || decide (e = x)) := by unfold hitE; simp only; rw [he]
    rw [h1, h2]
    by_cases c1 : x = 0 ∨ e = x
    · have c2 : (decide (x = 0) || decide (e = x)) = true := by simpa using c1
      rw [c2]
      by_cases c3 : f d = true
      · simp [c1, c3]; omega
      · simp [c1, c3]
    · have c2 : (decide (x = 0) || decide (e = x)) = false := by simpa using c1
      rw [c2, if_neg (by simp), if_neg (fun h => c1 h.1), if_neg (fun h => c1 h.1)]
      rfl
theorem pickT_ent {e d : Int} {l : List Pst} : ∀ p ∈ pickT e d l, p.ent = e ∧ p ∈ l := fun p hp => by
  unfold pickT at hp
  rw [List.mem_filter] at hp
  simp only [Bool.and_eq_true, decide_eq_true_eq] at hp
  exact ⟨hp.2.1.1, hp.1⟩
theorem turn_of (l : List Pst) (e d x t : Int) (f : Int → Bool) : ofM x f t (turnM l e d) = ofM x f t l + (if (x = 0 ∨ e = x) ∧ f (d + 1) = true then -sumN t (pickT e d l) else 0) := by
  unfold turnM
  rw [ofM_app, ofM_numT x f t (d + 1) e l.length (pickT e d l) fun p hp => (pickT_ent p hp).1]
theorem pickT_app (e d : Int) (l m : List Pst) : pickT e d (l ++ m) = pickT e d l ++ pickT e d m := List.filter_append ..
theorem pickT_none {e d : Int} {l : List Pst} (h : ∀ p ∈ l, p.day ≠ d) : pickT e d l = [] := by
  unfold pickT
  rw [List.filter_eq_nil_iff]
  intro p hp
  simp [h p hp]
theorem sumN_app (t : Int) : ∀ l m : List Pst, sumN t (l ++ m) = sumN t l + sumN t m
  | [], m => by simp [sumN]
  | p :: l, m => by simp only [List.cons_append, sumN, sumN_app t l m]; omega
/-- What is turned of raw postings. -/
def sumR (t : Int) : List Pst → Int
  | [] => 0
  | p :: l => (if p.ref = 1000000 then netP t p else 0) + sumR t l
theorem pick_num (t d e : Int) : ∀ (n : Int) (l : List Pst), sumN t (pickT e d (numP n d e l)) = sumR t l
  | _, [] => rfl
  | n, p :: l => by
    have ih := pick_num t d e (n + 1) l
    unfold pickT at ih ⊢
    rw [numP, List.filter_cons, sumR]
    by_cases h : p.ref = 1000000
    · rw [if_pos (by simp [h]), sumN, ih, if_pos h]
      rfl
    · rw [if_neg (by simp [h]), ih, if_neg h]
      omega
theorem sumR_kept (t : Int) : ∀ l : List Pst, sumR t (keptP l) = sumR t l
  | [] => rfl
  | p :: l => by
    have ih := sumR_kept t l
    unfold keptP at ih ⊢
    rw [List.filter_cons]
    by_cases h : p.amt = 0
    · rw [if_neg (by simp [h]), sumR, netP_zero h, ih]
      split <;> omega
    · rw [if_pos (by simp [h]), sumR, sumR, ih]
/-- What a reopening takes back of an account. -/
def effT (i u p t : Int) : Int := (if t = 520 then i else 0) - (if t = 220 then i else 0) + ((if t = 510 then u else 0) - (if t = 210 then u else 0)) + ((if t = 130 then p else 0) - (if t = 510 then p else 0))
theorem chg_ref (a b m : Int) : (chgP a b m).ref = 0 := by unfold chgP; split <;> rfl
theorem sumR_five (i u p c d t : Int) : sumR t (fiveP i u p c d) = effT i u p t := by
  unfold fiveP effT
  simp only [sumR, chg_ref]
  rw [if_neg (show ¬ (0 : Int) = 1000000 by omega)]
  unfold netP
  simp only [if_pos]
  omega
/-- Closing and reopening: what is left of the closing is what it did to the claims. -/
theorem close_turn_of {l : List Pst} {d : Int} (h : ∀ p ∈ l, p.day ≠ d) (e i u p c b x t : Int) (f : Int → Bool) : ofM x f t (turnM (closeM l e d i u p c b) e d) = ofM x f t l + (if (x = 0 ∨ e = x) ∧ f d = true then effC i u p c b t else 0) + (if (x = 0 ∨ e = x) ∧ f (d + 1) = true then -effT i u p t else 0) := by
  rw [turn_of, close_of]
  have h1 : sumN t (pickT e d (closeM l e d i u p c b)) = effT i u p t := by
    unfold closeM
    rw [pickT_app, pickT_none h, List.nil_append, pick_num, sumR_kept, sumR_five]
  rw [h1]
theorem LdgOk.days {l : List Pst} (h : LdgOk l) : ∀ p ∈ l, p.day ≤ (lastP l).day := by
  have key : ∀ k i, i + k < l.length → (pstAt l i).day ≤ (pstAt l (i + k)).day := by
    intro k
    induction k with
    | zero => intro i _; exact Int.le_refl _
    | succ k ih =>
      intro i hi
      have h1 := ih i (by omega)
      have h2 := h.asc (i + k) (by omega)
      rw [show i + (k + 1) = i + k + 1 by omega]
      omega
  intro p hp
  obtain ⟨i, hi, rfl⟩ := List.getElem_of_mem hp
  have h3 := key (l.length - 1 - i) i (by omega)
  rw [show i + (l.length - 1 - i) = l.length - 1 by omega] at h3
  rw [lastP_at (m := l.length - 1) (by omega), ← pstAt_get hi]
  exact h3
theorem LdgOk.turn_on {d : Int} (hd : 0 ≤ d ∧ d ≤ 36000) : ∀ (ps l : List Pst), LdgOk l → (∀ p ∈ ps, PstOk p) → l.length + ps.length ≤ 400 → (lastP l).day ≤ d → LdgOk (l ++ numT l.length d ps)
  | [], l, h, _, _, _ => by rw [numT, List.append_nil]; exact h
  | p :: ps, l, h, hp, hl, hday => by
    rw [List.length_cons] at hl
    have h1 := hp p List.mem_cons_self
    have hq : PstOk ⟨(l.length : Int) + 1, d, p.ent, p.crd, p.deb, p.amt, p.par, p.ref⟩ := ⟨by simp only; omega, hd, h1.ent, h1.crd, h1.deb, fun e => h1.ne e.symm, h1.amt, h1.par, h1.pne, h1.ref⟩
    have h2 := h.snoc (by omega) hq rfl hday
    have h3 := LdgOk.turn_on hd ps (l ++ [⟨(l.length : Int) + 1, d, p.ent, p.crd, p.deb, p.amt, p.par, p.ref⟩]) h2 (fun x hx => hp x (List.mem_cons_of_mem _ hx)) (by rw [List.length_append, List.length_singleton]; omega) (by rw [lastP_snoc]; exact Int.le_refl _)
    rw [List.length_append, List.length_singleton, List.append_assoc] at h3
    rw [numT]
    have e1 : (((l.length + 1 : Nat)) : Int) = (l.length : Int) + 1 := by omega
    rw [e1] at h3
    exact h3
theorem turn_ok {l : List Pst} (h : LdgOk l) {e d : Int} (hl : 2 * l.length ≤ 400) (hday : (lastP l).day ≤ d + 1) (hd : 0 ≤ d ∧ d < 36000) : LdgOk (turnM l e d) := by
  unfold turnM
  have h1 : (pickT e d l).length ≤ l.length := List.length_filter_le _ _
  exact LdgOk.turn_on ⟨by omega, by omega⟩ _ _ h (fun p hp => h.mem p (pickT_ent p hp).2) (by omega) hday

/-- Closing with nothing makes no posting. -/
theorem close_none (l : List Pst) (e d : Int) : closeM l e d 0 0 0 0 0 = l := by
  have h : keptP (fiveP 0 0 0 0 0) = [] := by decide
  unfold closeM
  rw [h, numP, List.append_nil]

end Go.Proofs.YtknmgkjfopoinaaGreatDoor

/- Closing and reopening, as mathematics: what they do to classes of accounts and to the result of a year, and closings of two entities; of no function of the program; no condition. -/
set_option linter.unusedSimpArgs false
set_option linter.unusedVariables false
namespace Go.Proofs.YtknmgkjfopoinaaGreatDoor
open Go.RowKit Go.Lib Go.Proofs

/-! ### Classes -/
def sumD (c : Int) : List Pst → Int
  | [] => 0
  | p :: l => cnetP c p + sumD c l
theorem cnetP_zero {c : Int} {p : Pst} (h : p.amt = 0) : cnetP c p = 0 := by
  unfold cnetP
  rw [h]
  split <;> split <;> rfl
theorem sumD_kept (c : Int) : ∀ l : List Pst, sumD c (keptP l) = sumD c l
  | [] => rfl
  | p :: l => by
    unfold keptP
    rw [List.filter_cons]
    by_cases h : p.amt = 0
    · rw [if_neg (by simp [h]), sumD, cnetP_zero h]
      have := sumD_kept c l
      unfold keptP at this
      omega
    · rw [if_pos (by simp [h]), sumD, sumD]
      have := sumD_kept c l
      unfold keptP at this
      omega
theorem clsM_app (x : Int) (f : Int → Bool) (c : Int) : ∀ l m : List Pst, clsM x f c (l ++ m) = clsM x f c l + clsM x f c m
  | [], m => by simp [clsM]
  | p :: l, m => by simp only [List.cons_append, clsM, clsM_app x f c l m]; omega
theorem clsM_num (x : Int) (f : Int → Bool) (c d e : Int) : ∀ (n : Int) (l : List Pst), clsM x f c (numP n d e l) = if (x = 0 ∨ e = x) ∧ f d = true then sumD c l else 0
  | _, [] => by simp [numP, clsM, sumD]
  | n, p :: l => by
    rw [numP, clsM, clsM_num x f c d e (n + 1) l, sumD]
    have h1 : cnetP c ⟨n + 1, d, e, p.deb, p.crd, p.amt, p.par, p.ref⟩ = cnetP c p := rfl
    have h2 : hitE x ⟨n + 1, d, e, p.deb, p.crd, p.amt, p.par, p.ref⟩ = (decide (x = 0) || decide (e = x)) := rfl
    rw [h1, h2]
    by_cases c1 : x = 0 ∨ e = x
    · have c2 : (decide (x = 0) || decide (e = x)) = true := by simpa using c1
      rw [c2]
      by_cases c3 : f d = true
      · simp [c1, c3]
      · simp [c1, c3]
    · have c2 : (decide (x = 0) || decide (e = x)) = false := by simpa using c1
      rw [c2, if_neg (by simp), if_neg (fun h => c1 h.1), if_neg (fun h => c1 h.1)]
      rfl
theorem clsM_numT (x : Int) (f : Int → Bool) (c d e : Int) : ∀ (n : Int) (l : List Pst), (∀ p ∈ l, p.ent = e) → clsM x f c (numT n d l) = if (x = 0 ∨ e = x) ∧ f d = true then -sumD c l else 0
  | _, [], _ => by simp [numT, clsM, sumD]
  | n, p :: l, h => by
    rw [numT, clsM, clsM_numT x f c d e (n + 1) l fun q hq => h q (List.mem_cons_of_mem _ hq), sumD]
    have he := h p List.mem_cons_self
    have h1 : cnetP c ⟨n + 1, d, p.ent, p.crd, p.deb, p.amt, p.par, p.ref⟩ = -cnetP c p := by unfold cnetP; simp only; omega
    have h2 : hitE x ⟨n + 1, d, p.ent, p.crd, p.deb, p.amt, p.par, p.ref⟩ = (decide (x = 0) || decide (e = x)) := by unfold hitE; simp only; rw [he]
    rw [h1, h2]
    by_cases c1 : x = 0 ∨ e = x
    · have c2 : (decide (x = 0) || decide (e = x)) = true := by simpa using c1
      rw [c2]
      by_cases c3 : f d = true
      · simp [c1, c3]; omega
      · simp [c1, c3]
    · have c2 : (decide (x = 0) || decide (e = x)) = false := by simpa using c1
      rw [c2, if_neg (by simp), if_neg (fun h => c1 h.1), if_neg (fun h => c1 h.1)]
      rfl
def sumE (c : Int) : List Pst → Int
  | [] => 0
  | p :: l => (if p.ref = 1000000 then cnetP c p else 0) + sumE c l
theorem pick_numD (c d e : Int) : ∀ (n : Int) (l : List Pst), sumD c (pickT e d (numP n d e l)) = sumE c l
  | _, [] => rfl
  | n, p :: l => by
    have ih := pick_numD c d e (n + 1) l
    unfold pickT at ih ⊢
    rw [numP, List.filter_cons, sumE]
    by_cases h : p.ref = 1000000
    · rw [if_pos (by simp [h]), sumD, ih, if_pos h]
      rfl
    · rw [if_neg (by simp [h]), ih, if_neg h]
      omega
theorem sumE_kept (c : Int) : ∀ l : List Pst, sumE c (keptP l) = sumE c l
  | [] => rfl
  | p :: l => by
    have ih := sumE_kept c l
    unfold keptP at ih ⊢
    rw [List.filter_cons]
    by_cases h : p.amt = 0
    · rw [if_neg (by simp [h]), sumE, cnetP_zero h, ih]
      split <;> omega
    · rw [if_pos (by simp [h]), sumE, sumE, ih]
theorem cls_520 : classM 520 = 5 ∧ classM 220 = 2 ∧ classM 510 = 5 ∧ classM 210 = 2 ∧ classM 130 = 1 ∧ classM 120 = 1 ∧ classM 420 = 4 ∧ classM 119 = 1 ∧ classM 530 = 5 := by decide
/-- What a closing without claims does to a class. -/
theorem sumD_five (i u p : Int) : sumD 4 (fiveP i u p 0 0) = 0 ∧ sumD 5 (fiveP i u p 0 0) = i + u - p ∧ sumE 4 (fiveP i u p 0 0) = 0 ∧ sumE 5 (fiveP i u p 0 0) = i + u - p := by
  obtain ⟨h1, h2, h3, h4, h5, -, -, -, -⟩ := cls_520
  have z : ∀ a b c, cnetP c (chgP a b 0) = 0 := fun a b c => cnetP_zero (by unfold chgP; rfl)
  unfold fiveP
  simp only [sumD, sumE, chg_ref, z]
  unfold cnetP
  simp only [h1, h2, h3, h4, h5]
  refine ⟨?_, ?_, ?_, ?_⟩ <;> simp <;> omega
/-- The result of a year. -/
def resM (e : Int) (f : Int → Bool) (l : List Pst) : Int := -clsM e f 4 l - clsM e f 5 l
theorem res_close_turn {l : List Pst} {d : Int} (h : ∀ p ∈ l, p.day ≠ d) (e i u p : Int) (he : e ≠ 0) (f : Int → Bool) : resM e f (turnM (closeM l e d i u p 0 0) e d) = resM e f l - (if f d = true then i + u - p else 0) + (if f (d + 1) = true then i + u - p else 0) := by
  have key : ∀ c, clsM e f c (turnM (closeM l e d i u p 0 0) e d) = clsM e f c l + (if f d = true then sumD c (fiveP i u p 0 0) else 0) + (if f (d + 1) = true then -sumE c (fiveP i u p 0 0) else 0) := fun c => by
    unfold turnM
    rw [clsM_app, clsM_numT e f c (d + 1) e _ _ fun p hp => (pickT_ent p hp).1]
    unfold closeM
    rw [clsM_app, clsM_num, sumD_kept, pickT_app, pickT_none h, List.nil_append, pick_numD, sumE_kept]
    simp
  obtain ⟨h1, h2, h3, h4⟩ := sumD_five i u p
  unfold resM
  rw [key, key, h1, h2, h3, h4]
  split <;> split <;> omega

/-! ### What a closing is to make of an account -/
/-- The books closed for an entity: open claims, their provision. -/
def clsL (l : List Pst) (e i u p o r : Int) : List Pst := closeM l e 719 i u p (o - ofM e (byDay 719) 120 l) (-r - ofM e (byDay 719) 119 l)
theorem clsL_other (l : List Pst) {e x : Int} (i u p o r t : Int) (hx : x ≠ 0) (h : e ≠ x) : ofM x (byDay 719) t (clsL l e i u p o r) = ofM x (byDay 719) t l := by
  unfold clsL
  rw [close_of, if_neg (by rintro ⟨h1 | h1, -⟩; exact hx h1; exact h h1)]
  omega
theorem clsL_own (l : List Pst) (e i u p o r t : Int) : ofM e (byDay 719) t (clsL l e i u p o r) = ofM e (byDay 719) t l + effC i u p (o - ofM e (byDay 719) 120 l) (-r - ofM e (byDay 719) 119 l) t := by
  unfold clsL
  rw [close_of, if_pos ⟨Or.inr rfl, by simp [byDay]⟩]
/-- In either order. -/
theorem clsL_twice (l : List Pst) (i u p o r i' u' p' o' r' t : Int) {x : Int} (hx : x = 1 ∨ x = 2) : ofM x (byDay 719) t (clsL (clsL l 1 i u p o r) 2 i' u' p' o' r') = ofM x (byDay 719) t (clsL (clsL l 2 i' u' p' o' r') 1 i u p o r) := by
  rcases hx with rfl | rfl
  · rw [clsL_other _ _ _ _ _ _ _ (by decide) (by decide), clsL_own, clsL_own, clsL_other _ _ _ _ _ _ _ (by decide) (by decide), clsL_other _ _ _ _ _ _ _ (by decide) (by decide), clsL_other _ _ _ _ _ _ _ (by decide) (by decide)]
  · rw [clsL_own, clsL_other _ _ _ _ _ _ _ (by decide) (by decide), clsL_other _ _ _ _ _ _ _ (by decide) (by decide), clsL_other _ _ _ _ _ _ _ (by decide) (by decide), clsL_other _ _ _ _ _ _ _ (by decide) (by decide), clsL_own]
/-- Behind a closing the claims stand with what is open, less their provision. -/
theorem clsL_claims (l : List Pst) (e i u p o r : Int) : ofM e (byDay 719) 120 (clsL l e i u p o r) = o ∧ ofM e (byDay 719) 119 (clsL l e i u p o r) = -r := by
  rw [clsL_own, clsL_own]
  unfold effC
  simp
  omega
theorem clsL_again (l : List Pst) (e i u p o r : Int) : clsL (clsL l e i u p o r) e 0 0 0 o r = clsL l e i u p o r := by
  have h := clsL_claims l e i u p o r
  generalize clsL l e i u p o r = m at *
  unfold clsL
  rw [h.1, h.2, Int.sub_self, Int.sub_self]
  exact close_none m e 719
/-- Balances of books with small postings. -/
theorem ofM_few {e : Int} {f : Int → Bool} {a B : Int} (h0 : 0 ≤ B) : ∀ {l : List Pst}, (∀ p ∈ l, 0 ≤ p.amt ∧ p.amt ≤ B) → -(B * (l.length : Int)) ≤ ofM e f a l ∧ ofM e f a l ≤ B * (l.length : Int)
  | [], _ => by simp [ofM]
  | p :: l, hp => by
    have h1 := ofM_few (e := e) (f := f) (a := a) h0 (l := l) fun q hq => hp q (List.mem_cons_of_mem _ hq)
    have h2 := hp p List.mem_cons_self
    have h3 : B * ((p :: l).length : Int) = B * (l.length : Int) + B := by rw [List.length_cons, Int.natCast_add, Int.mul_add]; simp
    rw [h3, ofM]
    have h4 : -B ≤ netP a p ∧ netP a p ≤ B := by unfold netP; constructor <;> (repeat' split) <;> omega
    split <;> omega

end Go.Proofs.YtknmgkjfopoinaaGreatDoor
