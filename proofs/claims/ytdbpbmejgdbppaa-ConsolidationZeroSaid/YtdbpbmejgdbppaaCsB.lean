/- consolidation.balances of a right ledger: what its postings up to a day make of every mutual position; on right ledgers. -/
import Derived.Test.YtdbpbmejgdbppaaCsS
import Derived.Test.YtdbpbmejgdbppaaLgC
import Derived.Test.YtdbpbmejgdbppaaLgO
import Derived.Test.YtdbpbmejgdbppaaRegW
import Derived.Test.YtdbpbmejgdbppaaCsM
import Derived.Deep.DeepCutAuto
set_option linter.unusedSimpArgs false
set_option linter.unusedVariables false
namespace Go.Proofs.Ytdbpbmejgdbppaa
open Go.RowKit Go.Lib Go.Proofs Go.Maps

/-- What postings up to a day make of a side. -/
def sideQ (d : Int) (l : List Pst) (s : Sd) : Int := posQ d s.acct s.ent s.par s.ref l
theorem sideQ_nil (d : Int) (s : Sd) : sideQ d [] s = 0 := rfl
theorem sideQ_late {d : Int} {l : List Pst} {x : Pst} (h : ¬ x.day ≤ d) (s : Sd) : sideQ d (l ++ [x]) s = sideQ d l s := by
  unfold sideQ
  rw [posQ_snoc]
  simp [hitQ, h]
theorem sideQ_snoc {d : Int} {l : List Pst} {x : Pst} (h : x.day ≤ d) (hne : x.deb ≠ x.crd) (s : Sd) : sideQ d (l ++ [x]) s = sideQ d l s + (if s = ⟨x.deb, x.ent, x.par, x.ref⟩ then x.amt else 0) - (if s = ⟨x.crd, x.ent, x.par, x.ref⟩ then x.amt else 0) := by
  obtain ⟨a, e, p, r⟩ := s
  unfold sideQ
  rw [posQ_snoc]
  simp only [Sd.mk.injEq]
  unfold hitQ netP
  by_cases e1 : x.ent = e
  · by_cases e2 : x.par = p
    · by_cases e3 : x.ref = r
      · subst e1 e2 e3
        simp only [h, decide_true, Bool.true_and, if_true, and_true]
        omega
      · have e3' : ¬ r = x.ref := fun q => e3 q.symm
        simp [h, e3, e3']
    · have e2' : ¬ p = x.par := fun q => e2 q.symm
      simp [h, e2, e2']
  · have e1' : ¬ e = x.ent := fun q => e1 q.symm
    simp [h, e1, e1']
theorem sideQ_bound {l : List Pst} (h : LdgOk l) (d : Int) (k : Nat) (s : Sd) : -400000000000000 ≤ sideQ d (l.take k) s ∧ sideQ d (l.take k) s ≤ 400000000000000 := by
  have h1 := posQ_bound (d := d) (a := s.acct) (e := s.ent) (p := s.par) (r := s.ref) (l := l.take k) fun p hp => h.mem p (List.mem_of_mem_take hp)
  have h2 := h.len
  have h3 : (l.take k).length ≤ 400 := by rw [List.length_take]; omega
  unfold sideQ
  omega

/-- Properties of slots, one of which is linked with another slot. -/
def RPE (e s k : Nat) (ss : List Nat) (P : Nat → Value → World → Prop) (j : Nat) (f : Nat → Value) (W : World) : Prop := if j = k then ∃ v, f e = .tuple #[v, f s] else RP ss P j f W
def rdE (e s k : Nat) (ss : List Nat) (j : Nat) : List Nat := if j = k then [e, s] else readsS ss j
theorem RPE.upd {e s k : Nat} {ss : List Nat} {P : Nat → Value → World → Prop} {j : Nat} {f : Nat → Value} {q : Nat} {v : Value} {w : World} (hq : ¬ q ∈ rdE e s k ss j) (h : RPE e s k ss P j f w) : RPE e s k ss P j (updF f q v) w := by
  unfold RPE rdE at *
  split
  · rename_i hj
    rw [if_pos hj] at h hq
    obtain ⟨v', h⟩ := h
    simp only [List.mem_cons, List.mem_nil_iff, or_false, not_or] at hq
    exact ⟨v', by rw [updF_other f v (fun e => hq.1 e.symm), updF_other f v (fun e => hq.2 e.symm)]; exact h⟩
  · rename_i hj
    rw [if_neg hj] at h hq
    exact RP.upd hq h
theorem RPE.set {e s k : Nat} {ss : List Nat} {P : Nat → Value → World → Prop} {j : Nat} {f : Nat → Value} {v : Value} {w : World} (hj : j ≠ k) (h : P j v w) : RPE e s k ss P j (updF f (slotS ss j) v) w := by
  unfold RPE
  rw [if_neg hj]
  exact RP.set h
theorem RPE.plain {e s k : Nat} {ss : List Nat} {P : Nat → Value → World → Prop} {j : Nat} {f : Nat → Value} {w : World} (hj : j ≠ k) (h : RPE e s k ss P j f w) : P j (f (slotS ss j)) w := by
  unfold RPE at h
  rw [if_neg hj] at h
  exact h
theorem RPE.get {e s k : Nat} {ss : List Nat} {P : Nat → Value → World → Prop} {f : Nat → Value} {w : World} (h : RPE e s k ss P k f w) : ∃ v, f e = .tuple #[v, f s] := by
  unfold RPE at h
  rw [if_pos rfl] at h
  exact h
theorem RPE.other {e s k : Nat} {ss : List Nat} {P : Nat → Value → World → Prop} {j : Nat} {f : Nat → Value} {w w' : World} (hk : ∀ v, P j v w → P j v w') (h : RPE e s k ss P j f w) : RPE e s k ss P j f w' := by
  unfold RPE at *
  split
  · rename_i hj
    rw [if_pos hj] at h
    exact h
  · rename_i hj
    rw [if_neg hj] at h
    exact hk _ h
theorem RPE.link {e s k : Nat} {ss : List Nat} {P : Nat → Value → World → Prop} {f : Nat → Value} {a b : Value} {w : World} (hs : e ≠ s) (h : f e = .tuple #[a, b]) : RPE e s k ss P k (updF f s b) w := by
  unfold RPE
  rw [if_pos rfl]
  exact ⟨a, by rw [updF_other f b hs, updF_same]; exact h⟩

set_option maxRecDepth 100000 in
set_option maxHeartbeats 8000000 in
theorem csbalances_right {l : List Pst} (h : LdgOk l) (d : Int) (v : Value) (w : World) (hl : PstsAt w v l) :
    Calls Try.prog 28 #[.agg #[v], .int .i64 d] w fun r w' => ∃ b, r = .returned (.map (some b)) ∧ w.heap.size ≤ b ∧ MapS w' b 1000 (sideQ d l) ∧ Below w.heap.size w w' := by
  have hlen := h.len
  have HCK := Lib.hid (fun W (hW : Below w.heap.size w W) => lgCheck_right h v W (hl.below hW))
  obtain ⟨ao, cap, rfl, hcap, hcs⟩ := hl.open
  have HCS := Lib.hid hcs
  have HOK := Lib.hid h
  obtain ⟨n, hn⟩ : ∃ n, n = l.length := ⟨_, rfl⟩
  have HN := Lib.hid hn
  rw [← hn] at hcap hlen HCK ⊢
  have HX0 := Lib.hid (heap_alloc_new w (.cells #[.slice ao n cap] 27))
  have HB0 := Lib.hid (below_alloc w (.cells #[.slice ao n cap] 27))
  have HM0 := Lib.hid (MapS.made (w.alloc (.cells #[.slice ao n cap] 27)))
  have HBM := Lib.hid (HB0.out.alloc HB0.out.size (.map #[] 0))
  simp only [World.size_alloc] at HM0
  obtain ⟨bM, hbM⟩ : ∃ b, b = w.heap.size + 1 := ⟨_, rfl⟩
  obtain ⟨wM, hwM⟩ : ∃ W, W = (w.alloc (.cells #[.slice ao n cap] 27)).alloc (.map #[] 0) := ⟨_, rfl⟩
  rw [← hwM] at HBM HM0
  rw [← hbM] at HM0
  have HXM : Hid (wM.heap[w.heap.size]? = some (.cells #[.slice ao n cap] 27 (0, 0))) := Lib.hid (by rw [hwM]; exact obj_below HX0.out (below_alloc _ _))
  have hxm := HXM.out
  have s0 := obj_cell hxm 0
  simp at s0
  have HBW : Hid (w.heap.size ≤ bM) := Lib.hid (by omega)
  clear hn hcs h hl hxm
  have hmm := @run_makeMap Try.prog
  go_enter Try.func28, Try.ntmps28
  go_upto_region 2 with fail
  rw [← hwM, ← hbM]
  clear hwM hbM hmm
  go_wp2_with fail
  refine (HCK.out _ HBM.out).mono ?_
  rintro e w1 ⟨rfl, hb1⟩
  have HB1 := Lib.hid (HBM.out.trans (hb1.mono HBM.out.size))
  have HM1 := Lib.hid (HM0.out.below hb1)
  have hx1 := obj_below HXM.out hb1
  have s1 := obj_cell hx1 0
  simp at s1
  clear hx1 hb1 s0 HXM HX0 HB0 HM0 HBM HCK
  go_wp2
  clear s1
  go_loopw [16] (fun i wr => ∃ k : Nat, i = .int .i64 k ∧ k ≤ n ∧ Hid (MapS wr bM (2 * k) (sideQ d (l.take k))) ∧ Hid (Below w.heap.size w wr)) (fun i _ => n - (RowKit.intOf i).toNat)
  case atStart => exact ⟨0, rfl, by omega, Lib.hid (HM1.out.congr (fun _ => rfl)), HB1⟩
  case round =>
    clear HM1 HB1
    obtain ⟨k, rfl, hkn, HM, HB⟩ := hrel
    by_cases hlt : k < n
    · have hkl' : k < l.length := by rw [← HN.out]; exact hlt
      obtain ⟨b, o, rfl, hb, hcc⟩ := HCS.out (by omega)
      have hcell := fun j (hj : j < 8) => (HB.out.cell (p := ⟨b, o + k * 8 + j, none⟩) hb).trans (hcc k hkl' j hj)
      have HTK := Lib.hid (take_snoc_at hkl')
      obtain ⟨q1, q2, q3, q4, q5, q6, q7, q8, q9, q10⟩ := HOK.out.ok k hkl'
      have hgb := sideQ_bound HOK.out d k
      have hgb2 := sideQ_bound HOK.out d (k + 1)
      have HSN := Lib.hid (fun (h : (pstAt l k).day ≤ d) s => sideQ_snoc (l := l.take k) (x := pstAt l k) h q6 s)
      have HSL := Lib.hid (fun (h : ¬ (pstAt l k).day ≤ d) s => sideQ_late (l := l.take k) (x := pstAt l k) h s)
      rw [← HTK.out] at HSN HSL
      obtain ⟨g, hg⟩ : ∃ g, g = sideQ d (l.take k) := ⟨_, rfl⟩
      rw [← hg] at hgb HM HSN HSL
      generalize pstAt l k = x at *
      obtain ⟨x0, x1, x2, x3, x4, x5, x6, x7⟩ := x
      clear hg hcc
      simp only at q2 q3 q4 q5 q6 q7 q8 q10 HSN HSL
      have c0 : wr.cell? ⟨b, o + k * 8, none⟩ = some (.int .i64 x0) := hcell 0 (by omega)
      have c1 : wr.cell? ⟨b, o + k * 8 + 1, none⟩ = some (.int .i64 x1) := hcell 1 (by omega)
      have c2 : wr.cell? ⟨b, o + k * 8 + 2, none⟩ = some (.int .i64 x2) := hcell 2 (by omega)
      have c3 : wr.cell? ⟨b, o + k * 8 + 3, none⟩ = some (.int .i64 x3) := hcell 3 (by omega)
      have c4 : wr.cell? ⟨b, o + k * 8 + 4, none⟩ = some (.int .i64 x4) := hcell 4 (by omega)
      have c5 : wr.cell? ⟨b, o + k * 8 + 5, none⟩ = some (.int .i64 x5) := hcell 5 (by omega)
      have c6 : wr.cell? ⟨b, o + k * 8 + 6, none⟩ = some (.int .i64 x6) := hcell 6 (by omega)
      have c7 : wr.cell? ⟨b, o + k * 8 + 7, none⟩ = some (.int .i64 x7) := hcell 7 (by omega)
      have hk0 : (0 : Int) ≤ (k : Int) := by omega
      have hk1 : (k : Int) < (n : Int) := by omega
      have hk4 : k ≤ 400 := by omega
      have hwk : IntKind.i64.wrap ((k : Int) + 1) = (k : Int) + 1 := IntWalk.i64_in _ (by omega)
      have hbw : bM < wr.heap.size := HM.out.lt
      have HXP := heap_alloc_new wr (.cells #[.int .i64 x0, .int .i64 x1, .int .i64 x2, .int .i64 x3, .int .i64 x4, .int .i64 x5, .int .i64 x6, .int .i64 x7] 41)
      have HBP := Lib.hid (HB.out.alloc HB.out.size (.cells #[.int .i64 x0, .int .i64 x1, .int .i64 x2, .int .i64 x3, .int .i64 x4, .int .i64 x5, .int .i64 x6, .int .i64 x7] 41))
      have HMQ := Lib.hid (HM.out.below (below_alloc wr (.cells #[.int .i64 x0, .int .i64 x1, .int .i64 x2, .int .i64 x3, .int .i64 x4, .int .i64 x5, .int .i64 x6, .int .i64 x7] 41)))
      obtain ⟨bP, hbP⟩ : ∃ b, b = wr.heap.size := ⟨_, rfl⟩
      obtain ⟨wP, hwP⟩ : ∃ W, W = wr.alloc (.cells #[.int .i64 x0, .int .i64 x1, .int .i64 x2, .int .i64 x3, .int .i64 x4, .int .i64 x5, .int .i64 x6, .int .i64 x7] 41) := ⟨_, rfl⟩
      rw [← hwP] at HXP HBP HMQ
      rw [← hbP] at HXP hbw
      have HXQ := Lib.hid HXP
      have z1 := obj_cell HXP 1
      simp at z1
      clear hcell HXP HM
      go_upto_region 7 with fail
      rw [← hwP, ← hbP]
      clear hwP hbP c0 c1 c2 c3 c4 c5 c6 c7
      by_cases hd : x1 ≤ d
      · have HK1 : Hid (Sd.In ⟨x3, x2, x6, x7⟩) := Lib.hid ⟨⟨by simp only; omega, by simp only; omega⟩, ⟨by simp only; omega, by simp only; omega⟩, ⟨by simp only; omega, by simp only; omega⟩, ⟨by simp only; omega, by simp only; omega⟩⟩
        have HK2 : Hid (Sd.In ⟨x4, x2, x6, x7⟩) := Lib.hid ⟨⟨by simp only; omega, by simp only; omega⟩, ⟨by simp only; omega, by simp only; omega⟩, ⟨by simp only; omega, by simp only; omega⟩, ⟨by simp only; omega, by simp only; omega⟩⟩
        have hne : (⟨x4, x2, x6, x7⟩ : Sd) ≠ ⟨x3, x2, x6, x7⟩ := fun q => q6 (by injection q with q _ _ _; exact q.symm)
        obtain ⟨g1, hg1⟩ : ∃ g1 : Sd → Int, g1 = fun t => g t + (if t = ⟨x3, x2, x6, x7⟩ then x5 else 0) := ⟨_, rfl⟩
        have hx3b := hgb ⟨x3, x2, x6, x7⟩
        have hx4b := hgb ⟨x4, x2, x6, x7⟩
        have h14 : g1 ⟨x4, x2, x6, x7⟩ = g ⟨x4, x2, x6, x7⟩ := by rw [hg1]; simp only; rw [if_neg hne]; omega
        have HKI := HK1
        have HYI : Hid (in64 (g ⟨x3, x2, x6, x7⟩ + x5)) := Lib.hid ⟨by omega, by omega⟩
        have HGO : Hid (∀ t, t ≠ (⟨x3, x2, x6, x7⟩ : Sd) → g1 t = g t) := Lib.hid fun t ht => by rw [hg1]; simp only; rw [if_neg ht]; omega
        have HGK : Hid (g1 ⟨x3, x2, x6, x7⟩ = g ⟨x3, x2, x6, x7⟩ + x5) := Lib.hid (by rw [hg1]; simp)
        have hwy : IntKind.i64.wrap (g ⟨x3, x2, x6, x7⟩ + x5) = g ⟨x3, x2, x6, x7⟩ + x5 := IntWalk.i64_in _ (by omega)
        have HG1 := Lib.hid hg1
        clear hg1
        obtain ⟨J, hJ⟩ : ∃ J, J = fun W : World => wP.grownBy W (some bM) ∧ ∃ m, m ≤ 2 * k + 1 ∧ MapS W bM m g := ⟨_, rfl⟩
        have HJO : Hid (∀ W, J W → wP.grownBy W (some bM) ∧ ∃ m, m ≤ 2 * k + 1 ∧ MapS W bM m g) := Lib.hid fun W hW => by rw [hJ] at hW; exact hW
        have HJI : Hid (∀ W, (wP.grownBy W (some bM) ∧ ∃ m, m ≤ 2 * k + 1 ∧ MapS W bM m g) → J W) := Lib.hid fun W hW => by rw [hJ]; exact hW
        have HJD : Hid (∀ W, J W → J W.drew) := Lib.hid fun W hW => by
          rw [hJ] at hW ⊢
          obtain ⟨h1, m, h2, h3⟩ := hW
          exact ⟨h1.trans (grownBy_below (row := some bM) ((Below.refl _ W).drew)), m, h2, h3.below ((Below.refl _ W).drew)⟩
        have HJ0 : Hid (J wP) := Lib.hid (by rw [hJ]; exact ⟨grownBy_refl _ _, _, Nat.le_succ _, HMQ.out⟩)
        have HJM : Hid (MapS (wP).drew bM (2 * k) g) := Lib.hid (HMQ.out.below ((Below.refl _ _).drew))
        have HMP : Hid (∀ W, J W → ∀ j, W.cell? ⟨bP, j, none⟩ = #[.int .i64 x0, .int .i64 x1, .int .i64 x2, .int .i64 x3, .int .i64 x4, .int .i64 x5, .int .i64 x6, .int .i64 x7][j]?) := Lib.hid fun W hW j => obj_cell (((HJO.out W hW).1.block _ (obj_lt HXQ.out) (fun e => by injection e with e; omega)).trans HXQ.out) j
        clear hJ
        go_upto_region 8 with fail
        clear z1
        go_cut [] (fun wx => Hid (MapS wx bM (2 * k + 1) g1) ∧ Hid (wP.grownBy wx (some bM)))
        case first =>
          obtain ⟨P, hP⟩ : ∃ P : Nat → Value → World → Prop, P = fun j v W => match j with | 0 => (v = .map (some bM)) | 1 => (v = .pointer (some ⟨bP, 3, none⟩)) | 2 => (v = .int .i64 x3) | 3 => (v = .pointer (some ⟨bP, 2, none⟩)) | 4 => (v = .int .i64 x2) | 5 => (v = .pointer (some ⟨bP, 6, none⟩)) | 6 => (v = .int .i64 x6) | 7 => (v = .pointer (some ⟨bP, 7, none⟩)) | 8 => (v = .int .i64 x7) | 9 => (v = .agg #[.int .i64 x3, .int .i64 x2, .int .i64 x6, .int .i64 x7]) | 10 => (v = .int .i64 (g ⟨x3, x2, x6, x7⟩)) | 11 => (v = .pointer (some ⟨bP, 5, none⟩)) | 12 => (v = .int .i64 x5) | 13 => (v = .int .i64 (g ⟨x3, x2, x6, x7⟩ + x5)) | 14 => (∃ vq sq, v = .tuple #[vq, goInt sq] ∧ EntS W bM (2 * k) g ⟨x3, x2, x6, x7⟩ sq) | 15 => (v = undef) | _ => True := ⟨_, rfl⟩
          have HPI0 : Hid (∀ v W, P 0 v W ↔ (v = .map (some bM))) := Lib.hid fun v W => by rw [hP] <;> exact Iff.rfl
          have HPI1 : Hid (∀ v W, P 1 v W ↔ (v = .pointer (some ⟨bP, 3, none⟩))) := Lib.hid fun v W => by rw [hP] <;> exact Iff.rfl
          have HPI2 : Hid (∀ v W, P 2 v W ↔ (v = .int .i64 x3)) := Lib.hid fun v W => by rw [hP] <;> exact Iff.rfl
          have HPI3 : Hid (∀ v W, P 3 v W ↔ (v = .pointer (some ⟨bP, 2, none⟩))) := Lib.hid fun v W => by rw [hP] <;> exact Iff.rfl
          have HPI4 : Hid (∀ v W, P 4 v W ↔ (v = .int .i64 x2)) := Lib.hid fun v W => by rw [hP] <;> exact Iff.rfl
          have HPI5 : Hid (∀ v W, P 5 v W ↔ (v = .pointer (some ⟨bP, 6, none⟩))) := Lib.hid fun v W => by rw [hP] <;> exact Iff.rfl
          have HPI6 : Hid (∀ v W, P 6 v W ↔ (v = .int .i64 x6)) := Lib.hid fun v W => by rw [hP] <;> exact Iff.rfl
          have HPI7 : Hid (∀ v W, P 7 v W ↔ (v = .pointer (some ⟨bP, 7, none⟩))) := Lib.hid fun v W => by rw [hP] <;> exact Iff.rfl
          have HPI8 : Hid (∀ v W, P 8 v W ↔ (v = .int .i64 x7)) := Lib.hid fun v W => by rw [hP] <;> exact Iff.rfl
          have HPI9 : Hid (∀ v W, P 9 v W ↔ (v = .agg #[.int .i64 x3, .int .i64 x2, .int .i64 x6, .int .i64 x7])) := Lib.hid fun v W => by rw [hP] <;> exact Iff.rfl
          have HPI10 : Hid (∀ v W, P 10 v W ↔ (v = .int .i64 (g ⟨x3, x2, x6, x7⟩))) := Lib.hid fun v W => by rw [hP] <;> exact Iff.rfl
          have HPI11 : Hid (∀ v W, P 11 v W ↔ (v = .pointer (some ⟨bP, 5, none⟩))) := Lib.hid fun v W => by rw [hP] <;> exact Iff.rfl
          have HPI12 : Hid (∀ v W, P 12 v W ↔ (v = .int .i64 x5)) := Lib.hid fun v W => by rw [hP] <;> exact Iff.rfl
          have HPI13 : Hid (∀ v W, P 13 v W ↔ (v = .int .i64 (g ⟨x3, x2, x6, x7⟩ + x5))) := Lib.hid fun v W => by rw [hP] <;> exact Iff.rfl
          have HPI14 : Hid (∀ v W, P 14 v W ↔ (∃ vq sq, v = .tuple #[vq, goInt sq] ∧ EntS W bM (2 * k) g ⟨x3, x2, x6, x7⟩ sq)) := Lib.hid fun v W => by rw [hP] <;> exact Iff.rfl
          have HPI15 : Hid (∀ v W, P 15 v W ↔ (v = undef)) := Lib.hid fun v W => by rw [hP] <;> exact Iff.rfl
          have HKP : Hid (∀ (j : Nat) v W W', Below W.heap.size W W' → P j v W → P j v W') := Lib.hid (by
            rw [hP]
            intro j v W W' hb h
            match j, h with
            | 0, h => exact h
            | 1, h => exact h
            | 2, h => exact h
            | 3, h => exact h
            | 4, h => exact h
            | 5, h => exact h
            | 6, h => exact h
            | 7, h => exact h
            | 8, h => exact h
            | 9, h => exact h
            | 10, h => exact h
            | 11, h => exact h
            | 12, h => exact h
            | 13, h => exact h
            | 14, ⟨vq, sq, e, s0⟩ => exact ⟨vq, sq, e, s0.below hb⟩
            | 15, h => exact h
            | j + 16, _ => trivial)
          have HKX : Hid (∀ (j : Nat) v W W', j ≠ 14 → P j v W → P j v W') := Lib.hid (by
            rw [hP]
            intro j v W W' hj h
            match j, hj, h with
            | 0, _, h => exact h
            | 1, _, h => exact h
            | 2, _, h => exact h
            | 3, _, h => exact h
            | 4, _, h => exact h
            | 5, _, h => exact h
            | 6, _, h => exact h
            | 7, _, h => exact h
            | 8, _, h => exact h
            | 9, _, h => exact h
            | 10, _, h => exact h
            | 11, _, h => exact h
            | 12, _, h => exact h
            | 13, _, h => exact h
            | 14, hj, _ => exact absurd rfl hj
            | 15, _, h => exact h
            | j + 16, _, _ => trivial)
          clear hP
          refine wp_region_tail2 [24, 25, 26, 27, 28, 29, 30, 31, 32, 33, 34, 35, 36, 37, 38, 39] (slotS [24, 25, 26, 27, 28, 29, 30, 31, 32, 33, 34, 35, 36, 37, 38, 39]) (rdE 38 39 15 [24, 25, 26, 27, 28, 29, 30, 31, 32, 33, 34, 35, 36, 37, 38, 39]) (RPE 38 39 15 [24, 25, 26, 27, 28, 29, 30, 31, 32, 33, 34, 35, 36, 37, 38, 39] P) (fun b _ W => J W ∧ (b = false → MapS W bM (2 * k) g)) 14 0 (fun kt f W => match kt with | 0 => (∃ (sq : Int), f 24 = .map (some bM) ∧ f 37 = .int .i64 (g ⟨x3, x2, x6, x7⟩ + x5) ∧ f 39 = goInt sq ∧ EntS W bM (2 * k) g ⟨x3, x2, x6, x7⟩ sq ∧ wP.grownBy W (some bM)) | _ => (MapS W bM (2 * k + 1) g1 ∧ wP.grownBy W (some bM))) 16 8 (by decide) (by decide) (by decide) (by kernel_rfl) (by kernel_rfl) (by kernel_rfl) (by kernel_rfl)  ⟨HJD.out _ HJ0.out, fun _ => HJM.out⟩ (fun j f q v W hq h => RPE.upd hq h) ?_ ?_ ?_ ?_
          case refine_1 =>
            intro iq hiq f W b1 c1 hIW0 hb0 hc0 hdep0
            have hIW := hIW0.1
            have hdep : ∀ j, j ≠ 15 → depB _ iq j = true → P j (f (slotS [24, 25, 26, 27, 28, 29, 30, 31, 32, 33, 34, 35, 36, 37, 38, 39] j)) W := fun j hj h => RPE.plain hj (hdep0 j h)
            clear hdep0
            generalize ha1 : putsL _ [24, 25, 26, 27, 28, 29, 30, 31, 32, 33, 34, 35, 36, 37, 38, 39] f = a1
            match iq, hiq, hb0, hdep with
            | 0, _, hb0, hdep0 =>
              have E5 : a1.tmps[5]?.getD undef = .map (some bM) := by rw [← ha1]; exact (putsL_out2 _ _ _ _ (by decide)).trans rfl
              exact wpOp_val rfl rfl (v := .map (some bM)) (w' := W) (by simp [execOp, go_sem, E5]) ⟨⟨hIW, fun hbb => hIW0.2 (by simpa using hbb)⟩, fun _ _ h => h, _, by decide, rfl, RPE.set (by decide) ((HPI0.out _ _).2 rfl)⟩
            | 1, _, hb0, hdep0 =>
              have E7 : a1.tmps[7]?.getD undef = .pointer (some ⟨bP, 0, none⟩) := by rw [← ha1]; exact (putsL_out2 _ _ _ _ (by decide)).trans rfl
              exact wpOp_val rfl rfl (v := .pointer (some ⟨bP, 3, none⟩)) (w' := W) (by simp [execOp, go_sem, E7]) ⟨⟨hIW, fun hbb => hIW0.2 (by simpa using hbb)⟩, fun _ _ h => h, _, by decide, rfl, RPE.set (by decide) ((HPI1.out _ _).2 rfl)⟩
            | 2, _, hb0, hdep0 =>
              have hd1 := (HPI1.out _ _).1 (hdep0 1 (by decide) (by kernel_rfl))
              have E25 : a1.tmps[25]?.getD undef = .pointer (some ⟨bP, 3, none⟩) := by rw [← ha1]; exact (putsL_in2 _ _ _ _ (by decide) (show 25 < 58 from by decide)).trans hd1
              have v3 : W.cell? ⟨bP, 3, none⟩ = some (.int .i64 x3) := by simpa using HMP.out W hIW 3
              exact wpOp_val rfl rfl (v := .int .i64 x3) (w' := W) (by simp [execOp, go_sem, E25, v3]) ⟨⟨hIW, fun hbb => hIW0.2 (by simpa using hbb)⟩, fun _ _ h => h, _, by decide, rfl, RPE.set (by decide) ((HPI2.out _ _).2 rfl)⟩
            | 3, _, hb0, hdep0 =>
              have E7 : a1.tmps[7]?.getD undef = .pointer (some ⟨bP, 0, none⟩) := by rw [← ha1]; exact (putsL_out2 _ _ _ _ (by decide)).trans rfl
              exact wpOp_val rfl rfl (v := .pointer (some ⟨bP, 2, none⟩)) (w' := W) (by simp [execOp, go_sem, E7]) ⟨⟨hIW, fun hbb => hIW0.2 (by simpa using hbb)⟩, fun _ _ h => h, _, by decide, rfl, RPE.set (by decide) ((HPI3.out _ _).2 rfl)⟩
            | 4, _, hb0, hdep0 =>
              have hd3 := (HPI3.out _ _).1 (hdep0 3 (by decide) (by kernel_rfl))
              have E27 : a1.tmps[27]?.getD undef = .pointer (some ⟨bP, 2, none⟩) := by rw [← ha1]; exact (putsL_in2 _ _ _ _ (by decide) (show 27 < 58 from by decide)).trans hd3
              have v2 : W.cell? ⟨bP, 2, none⟩ = some (.int .i64 x2) := by simpa using HMP.out W hIW 2
              exact wpOp_val rfl rfl (v := .int .i64 x2) (w' := W) (by simp [execOp, go_sem, E27, v2]) ⟨⟨hIW, fun hbb => hIW0.2 (by simpa using hbb)⟩, fun _ _ h => h, _, by decide, rfl, RPE.set (by decide) ((HPI4.out _ _).2 rfl)⟩
            | 5, _, hb0, hdep0 =>
              have E7 : a1.tmps[7]?.getD undef = .pointer (some ⟨bP, 0, none⟩) := by rw [← ha1]; exact (putsL_out2 _ _ _ _ (by decide)).trans rfl
              exact wpOp_val rfl rfl (v := .pointer (some ⟨bP, 6, none⟩)) (w' := W) (by simp [execOp, go_sem, E7]) ⟨⟨hIW, fun hbb => hIW0.2 (by simpa using hbb)⟩, fun _ _ h => h, _, by decide, rfl, RPE.set (by decide) ((HPI5.out _ _).2 rfl)⟩
            | 6, _, hb0, hdep0 =>
              have hd5 := (HPI5.out _ _).1 (hdep0 5 (by decide) (by kernel_rfl))
              have E29 : a1.tmps[29]?.getD undef = .pointer (some ⟨bP, 6, none⟩) := by rw [← ha1]; exact (putsL_in2 _ _ _ _ (by decide) (show 29 < 58 from by decide)).trans hd5
              have v6 : W.cell? ⟨bP, 6, none⟩ = some (.int .i64 x6) := by simpa using HMP.out W hIW 6
              exact wpOp_val rfl rfl (v := .int .i64 x6) (w' := W) (by simp [execOp, go_sem, E29, v6]) ⟨⟨hIW, fun hbb => hIW0.2 (by simpa using hbb)⟩, fun _ _ h => h, _, by decide, rfl, RPE.set (by decide) ((HPI6.out _ _).2 rfl)⟩
            | 7, _, hb0, hdep0 =>
              have E7 : a1.tmps[7]?.getD undef = .pointer (some ⟨bP, 0, none⟩) := by rw [← ha1]; exact (putsL_out2 _ _ _ _ (by decide)).trans rfl
              exact wpOp_val rfl rfl (v := .pointer (some ⟨bP, 7, none⟩)) (w' := W) (by simp [execOp, go_sem, E7]) ⟨⟨hIW, fun hbb => hIW0.2 (by simpa using hbb)⟩, fun _ _ h => h, _, by decide, rfl, RPE.set (by decide) ((HPI7.out _ _).2 rfl)⟩
            | 8, _, hb0, hdep0 =>
              have hd7 := (HPI7.out _ _).1 (hdep0 7 (by decide) (by kernel_rfl))
              have E31 : a1.tmps[31]?.getD undef = .pointer (some ⟨bP, 7, none⟩) := by rw [← ha1]; exact (putsL_in2 _ _ _ _ (by decide) (show 31 < 58 from by decide)).trans hd7
              have v7 : W.cell? ⟨bP, 7, none⟩ = some (.int .i64 x7) := by simpa using HMP.out W hIW 7
              exact wpOp_val rfl rfl (v := .int .i64 x7) (w' := W) (by simp [execOp, go_sem, E31, v7]) ⟨⟨hIW, fun hbb => hIW0.2 (by simpa using hbb)⟩, fun _ _ h => h, _, by decide, rfl, RPE.set (by decide) ((HPI8.out _ _).2 rfl)⟩
            | 9, _, hb0, hdep0 =>
              have hd2 := (HPI2.out _ _).1 (hdep0 2 (by decide) (by kernel_rfl))
              have hd4 := (HPI4.out _ _).1 (hdep0 4 (by decide) (by kernel_rfl))
              have hd6 := (HPI6.out _ _).1 (hdep0 6 (by decide) (by kernel_rfl))
              have hd8 := (HPI8.out _ _).1 (hdep0 8 (by decide) (by kernel_rfl))
              have E26 : a1.tmps[26]?.getD undef = .int .i64 x3 := by rw [← ha1]; exact (putsL_in2 _ _ _ _ (by decide) (show 26 < 58 from by decide)).trans hd2
              have E28 : a1.tmps[28]?.getD undef = .int .i64 x2 := by rw [← ha1]; exact (putsL_in2 _ _ _ _ (by decide) (show 28 < 58 from by decide)).trans hd4
              have E30 : a1.tmps[30]?.getD undef = .int .i64 x6 := by rw [← ha1]; exact (putsL_in2 _ _ _ _ (by decide) (show 30 < 58 from by decide)).trans hd6
              have E32 : a1.tmps[32]?.getD undef = .int .i64 x7 := by rw [← ha1]; exact (putsL_in2 _ _ _ _ (by decide) (show 32 < 58 from by decide)).trans hd8
              exact wpOp_val rfl rfl (v := .agg #[.int .i64 x3, .int .i64 x2, .int .i64 x6, .int .i64 x7]) (w' := W) (by simp [execOp, go_sem, E26, E28, E30, E32]) ⟨⟨hIW, fun hbb => hIW0.2 (by simpa using hbb)⟩, fun _ _ h => h, _, by decide, rfl, RPE.set (by decide) ((HPI9.out _ _).2 rfl)⟩
            | 10, _, hb0, hdep0 =>
              have hd0 := (HPI0.out _ _).1 (hdep0 0 (by decide) (by kernel_rfl))
              have hd9 := (HPI9.out _ _).1 (hdep0 9 (by decide) (by kernel_rfl))
              have E24 : a1.tmps[24]?.getD undef = .map (some bM) := by rw [← ha1]; exact (putsL_in2 _ _ _ _ (by decide) (show 24 < 58 from by decide)).trans hd0
              have E33 : a1.tmps[33]?.getD undef = .agg #[.int .i64 x3, .int .i64 x2, .int .i64 x6, .int .i64 x7] := by rw [← ha1]; exact (putsL_in2 _ _ _ _ (by decide) (show 33 < 58 from by decide)).trans hd9
              have hlk : (Instr.lookup 65 (.map (some bM)) (.agg #[.int .i64 x3, .int .i64 x2, .int .i64 x6, .int .i64 x7]) false).run Try.prog W = .ok (.int .i64 (g ⟨x3, x2, x6, x7⟩)) W := look_S (HJO.out W hIW).2.choose_spec.2 HKI.out
              exact wpOp_val rfl rfl (v := .int .i64 (g ⟨x3, x2, x6, x7⟩)) (w' := W) (by simp [execOp, go_sem, E24, E33, hlk]) ⟨⟨hIW, fun hbb => hIW0.2 (by simpa using hbb)⟩, fun _ _ h => h, _, by decide, rfl, RPE.set (by decide) ((HPI10.out _ _).2 rfl)⟩
            | 11, _, hb0, hdep0 =>
              have E7 : a1.tmps[7]?.getD undef = .pointer (some ⟨bP, 0, none⟩) := by rw [← ha1]; exact (putsL_out2 _ _ _ _ (by decide)).trans rfl
              exact wpOp_val rfl rfl (v := .pointer (some ⟨bP, 5, none⟩)) (w' := W) (by simp [execOp, go_sem, E7]) ⟨⟨hIW, fun hbb => hIW0.2 (by simpa using hbb)⟩, fun _ _ h => h, _, by decide, rfl, RPE.set (by decide) ((HPI11.out _ _).2 rfl)⟩
            | 12, _, hb0, hdep0 =>
              have hd11 := (HPI11.out _ _).1 (hdep0 11 (by decide) (by kernel_rfl))
              have E35 : a1.tmps[35]?.getD undef = .pointer (some ⟨bP, 5, none⟩) := by rw [← ha1]; exact (putsL_in2 _ _ _ _ (by decide) (show 35 < 58 from by decide)).trans hd11
              have v5 : W.cell? ⟨bP, 5, none⟩ = some (.int .i64 x5) := by simpa using HMP.out W hIW 5
              exact wpOp_val rfl rfl (v := .int .i64 x5) (w' := W) (by simp [execOp, go_sem, E35, v5]) ⟨⟨hIW, fun hbb => hIW0.2 (by simpa using hbb)⟩, fun _ _ h => h, _, by decide, rfl, RPE.set (by decide) ((HPI12.out _ _).2 rfl)⟩
            | 13, _, hb0, hdep0 =>
              have hd10 := (HPI10.out _ _).1 (hdep0 10 (by decide) (by kernel_rfl))
              have hd12 := (HPI12.out _ _).1 (hdep0 12 (by decide) (by kernel_rfl))
              have E34 : a1.tmps[34]?.getD undef = .int .i64 (g ⟨x3, x2, x6, x7⟩) := by rw [← ha1]; exact (putsL_in2 _ _ _ _ (by decide) (show 34 < 58 from by decide)).trans hd10
              have E36 : a1.tmps[36]?.getD undef = .int .i64 x5 := by rw [← ha1]; exact (putsL_in2 _ _ _ _ (by decide) (show 36 < 58 from by decide)).trans hd12
              exact wpOp_val rfl rfl (v := .int .i64 (g ⟨x3, x2, x6, x7⟩ + x5)) (w' := W) (by simp [execOp, go_sem, E34, E36, hwy]) ⟨⟨hIW, fun hbb => hIW0.2 (by simpa using hbb)⟩, fun _ _ h => h, _, by decide, rfl, RPE.set (by decide) ((HPI13.out _ _).2 rfl)⟩
            | 14, _, hb0, hdep0 =>
              have hd0 := (HPI0.out _ _).1 (hdep0 0 (by decide) (by kernel_rfl))
              have hd9 := (HPI9.out _ _).1 (hdep0 9 (by decide) (by kernel_rfl))
              have E24 : a1.tmps[24]?.getD undef = .map (some bM) := by rw [← ha1]; exact (putsL_in2 _ _ _ _ (by decide) (show 24 < 58 from by decide)).trans hd0
              have E33 : a1.tmps[33]?.getD undef = .agg #[.int .i64 x3, .int .i64 x2, .int .i64 x6, .int .i64 x7] := by rw [← ha1]; exact (putsL_in2 _ _ _ _ (by decide) (show 33 < 58 from by decide)).trans hd9
              have E24a := E24
              refine wpOp_entryS rfl rfl (.tmp 24) (.tmp 33) rfl bM (2 * k) g ⟨x3, x2, x6, x7⟩ (by simp [go_sem, E24]) (by simp [go_sem, E33, sdC]) (hIW0.2 (hb0 rfl)) (by unfold maxLen; omega) HKI.out ?_
              intro v0 st W1 hE hM1 hg
              exact ⟨⟨HJI.out _ ⟨(HJO.out W hIW).1.trans hg, _, Nat.le_refl _, hM1⟩, fun hbb => by simp at hbb⟩, fun j hj h => RPE.other (fun v h2 => HKX.out j v W W1 hj h2) h, _, by decide, rfl, RPE.set (by decide) ((HPI14.out _ _).2 ⟨_, _, rfl, hE⟩)⟩
            | 15, _, hb0, hdep0 =>
              have hd14 := (HPI14.out _ _).1 (hdep0 14 (by decide) (by kernel_rfl))
              obtain ⟨vq, sq, q14, r14_0⟩ := hd14
              have E38 : a1.tmps[38]?.getD undef = .tuple #[vq, goInt sq] := by rw [← ha1]; exact (putsL_in2 _ _ _ _ (by decide) (show 38 < 58 from by decide)).trans q14
              exact wpOp_val rfl rfl (v := goInt sq) (w' := W) (by simp [execOp, go_sem, E38]) ⟨⟨hIW, fun hbb => hIW0.2 (by simpa using hbb)⟩, fun _ _ h => h, _, by decide, rfl, RPE.link (by decide) q14⟩
            | iq + 16, h, _, _ => exact absurd h (by omega)
          case refine_2 =>
            intro f W hIW hR
            have h24 := (HPI0.out _ _).1 (RPE.plain (by decide) (hR 0 (by decide)))
            have h37 := (HPI13.out _ _).1 (RPE.plain (by decide) (hR 13 (by decide)))
            have h38 := (HPI14.out _ _).1 (RPE.plain (by decide) (hR 14 (by decide)))
            obtain ⟨vq, sq, h38, hE⟩ := h38
            replace h38 : f 38 = .tuple #[vq, goInt sq] := h38
            have hl : ∃ v1, f 38 = .tuple #[v1, f 39] := RPE.get (hR 15 (by decide))
            obtain ⟨v1, hl⟩ := hl
            rw [h38] at hl
            have h39 : f 39 = goInt sq := by injection hl with hl; have := congrArg (fun a => a[1]?) hl; simpa using this.symm
            exact ⟨sq, h24, h37, h39, hE, (HJO.out W hIW.1).1⟩
          case refine_3 =>
            intro iq hsq hiq f W hIt0
            have hiq2 : iq < 17 := hiq
            have hIt := hIt0
            clear hIt0
            rcases (show iq = 16 by omega) with rfl
            · clear hsq hiq hiq2
              obtain ⟨sq, h0, h1, h2, hE, hg⟩ := hIt
              refine wpOp_estoreS rfl rfl (.tmp 24) (.tmp 39) (.tmp 37) rfl bM (2 * k) g ⟨x3, x2, x6, x7⟩ sq (g ⟨x3, x2, x6, x7⟩ + x5) ?_ ?_ ?_ hE HYI.out g1 HGO.out HGK.out ?_
              · exact (putsL_in _ _ _ _ (by decide) (show 24 < 58 from by decide)).trans h0
              · exact (putsL_in _ _ _ _ (by decide) (show 39 < 58 from by decide)).trans h2
              · exact (putsL_in _ _ _ _ (by decide) (show 37 < 58 from by decide)).trans h1
              · intro W1 hM hg1
                exact ⟨f, rfl, hM, hg.trans hg1⟩
          case refine_4 =>
            intro f W hIt
            simp only [putsL, List.foldl_cons, List.foldl_nil, Act.put, List.setIfInBounds_toArray, List.set_cons_zero, List.set_cons_succ]
            obtain ⟨hM, hg⟩ := hIt
            go_wp2
            go_meet
            exact ⟨Lib.hid hM, Lib.hid hg⟩
        case rest =>
        obtain ⟨HM5, HG5⟩ := hcut
        have HX5 : Hid (wc.heap[bP]? = some (.cells #[.int .i64 x0, .int .i64 x1, .int .i64 x2, .int .i64 x3, .int .i64 x4, .int .i64 x5, .int .i64 x6, .int .i64 x7] 41 (0, 0))) := Lib.hid ((HG5.out.block _ (obj_lt HXQ.out) (fun e => by injection e with e; omega)).trans HXQ.out)
        have HB5 : Hid (Below w.heap.size w wc) := Lib.hid (HBP.out.grown HG5.out HBP.out.size fun j e => by injection e with e; have := HBW.out; omega)
        clear HG5 HJ0 HJD HMP HJM HJO HJI HKI HYI HGO HGK hwy HXQ HMQ J
        have HKI := HK2
        obtain ⟨g2, hg2⟩ : ∃ g2 : Sd → Int, g2 = fun t => g1 t - (if t = ⟨x4, x2, x6, x7⟩ then x5 else 0) := ⟨_, rfl⟩
        rw [← h14] at hx4b
        have HYI : Hid (in64 (g1 ⟨x4, x2, x6, x7⟩ - x5)) := Lib.hid ⟨by omega, by omega⟩
        have HGO : Hid (∀ t, t ≠ (⟨x4, x2, x6, x7⟩ : Sd) → g2 t = g1 t) := Lib.hid fun t ht => by rw [hg2]; simp only; rw [if_neg ht]; omega
        have HGK : Hid (g2 ⟨x4, x2, x6, x7⟩ = g1 ⟨x4, x2, x6, x7⟩ - x5) := Lib.hid (by rw [hg2]; simp)
        have hwy : IntKind.i64.wrap (g1 ⟨x4, x2, x6, x7⟩ - x5) = g1 ⟨x4, x2, x6, x7⟩ - x5 := IntWalk.i64_in _ (by omega)
        have HG2 : Hid (∀ s, g2 s = sideQ d (l.take (k + 1)) s) := Lib.hid fun s => by rw [HSN.out hd s, hg2, HG1.out]
        clear hg2 h14 hx3b hx4b HG1 HSN HSL
        obtain ⟨J, hJ⟩ : ∃ J, J = fun W : World => wc.grownBy W (some bM) ∧ ∃ m, m ≤ 2 * k + 1 + 1 ∧ MapS W bM m g1 := ⟨_, rfl⟩
        have HJO : Hid (∀ W, J W → wc.grownBy W (some bM) ∧ ∃ m, m ≤ 2 * k + 1 + 1 ∧ MapS W bM m g1) := Lib.hid fun W hW => by rw [hJ] at hW; exact hW
        have HJI : Hid (∀ W, (wc.grownBy W (some bM) ∧ ∃ m, m ≤ 2 * k + 1 + 1 ∧ MapS W bM m g1) → J W) := Lib.hid fun W hW => by rw [hJ]; exact hW
        have HJD : Hid (∀ W, J W → J W.drew) := Lib.hid fun W hW => by
          rw [hJ] at hW ⊢
          obtain ⟨h1, m, h2, h3⟩ := hW
          exact ⟨h1.trans (grownBy_below (row := some bM) ((Below.refl _ W).drew)), m, h2, h3.below ((Below.refl _ W).drew)⟩
        have HJ0 : Hid (J wc) := Lib.hid (by rw [hJ]; exact ⟨grownBy_refl _ _, _, Nat.le_succ _, HM5.out⟩)
        have HJM : Hid (MapS (wc).drew bM (2 * k + 1) g1) := Lib.hid (HM5.out.below ((Below.refl _ _).drew))
        have HMP : Hid (∀ W, J W → ∀ j, W.cell? ⟨bP, j, none⟩ = #[.int .i64 x0, .int .i64 x1, .int .i64 x2, .int .i64 x3, .int .i64 x4, .int .i64 x5, .int .i64 x6, .int .i64 x7][j]?) := Lib.hid fun W hW j => obj_cell (((HJO.out W hW).1.block _ (obj_lt HX5.out) (fun e => by injection e with e; omega)).trans HX5.out) j
        clear hJ
        go_upto_region 9 with fail
        obtain ⟨P, hP⟩ : ∃ P : Nat → Value → World → Prop, P = fun j v W => match j with | 0 => (v = .map (some bM)) | 1 => (v = .pointer (some ⟨bP, 4, none⟩)) | 2 => (v = .int .i64 x4) | 3 => (v = .pointer (some ⟨bP, 2, none⟩)) | 4 => (v = .int .i64 x2) | 5 => (v = .pointer (some ⟨bP, 6, none⟩)) | 6 => (v = .int .i64 x6) | 7 => (v = .pointer (some ⟨bP, 7, none⟩)) | 8 => (v = .int .i64 x7) | 9 => (v = .agg #[.int .i64 x4, .int .i64 x2, .int .i64 x6, .int .i64 x7]) | 10 => (v = .int .i64 (g1 ⟨x4, x2, x6, x7⟩)) | 11 => (v = .pointer (some ⟨bP, 5, none⟩)) | 12 => (v = .int .i64 x5) | 13 => (v = .int .i64 (g1 ⟨x4, x2, x6, x7⟩ - x5)) | 14 => (∃ vq sq, v = .tuple #[vq, goInt sq] ∧ EntS W bM (2 * k + 1) g1 ⟨x4, x2, x6, x7⟩ sq) | 15 => (v = undef) | _ => True := ⟨_, rfl⟩
        have HPI0 : Hid (∀ v W, P 0 v W ↔ (v = .map (some bM))) := Lib.hid fun v W => by rw [hP] <;> exact Iff.rfl
        have HPI1 : Hid (∀ v W, P 1 v W ↔ (v = .pointer (some ⟨bP, 4, none⟩))) := Lib.hid fun v W => by rw [hP] <;> exact Iff.rfl
        have HPI2 : Hid (∀ v W, P 2 v W ↔ (v = .int .i64 x4)) := Lib.hid fun v W => by rw [hP] <;> exact Iff.rfl
        have HPI3 : Hid (∀ v W, P 3 v W ↔ (v = .pointer (some ⟨bP, 2, none⟩))) := Lib.hid fun v W => by rw [hP] <;> exact Iff.rfl
        have HPI4 : Hid (∀ v W, P 4 v W ↔ (v = .int .i64 x2)) := Lib.hid fun v W => by rw [hP] <;> exact Iff.rfl
        have HPI5 : Hid (∀ v W, P 5 v W ↔ (v = .pointer (some ⟨bP, 6, none⟩))) := Lib.hid fun v W => by rw [hP] <;> exact Iff.rfl
        have HPI6 : Hid (∀ v W, P 6 v W ↔ (v = .int .i64 x6)) := Lib.hid fun v W => by rw [hP] <;> exact Iff.rfl
        have HPI7 : Hid (∀ v W, P 7 v W ↔ (v = .pointer (some ⟨bP, 7, none⟩))) := Lib.hid fun v W => by rw [hP] <;> exact Iff.rfl
        have HPI8 : Hid (∀ v W, P 8 v W ↔ (v = .int .i64 x7)) := Lib.hid fun v W => by rw [hP] <;> exact Iff.rfl
        have HPI9 : Hid (∀ v W, P 9 v W ↔ (v = .agg #[.int .i64 x4, .int .i64 x2, .int .i64 x6, .int .i64 x7])) := Lib.hid fun v W => by rw [hP] <;> exact Iff.rfl
        have HPI10 : Hid (∀ v W, P 10 v W ↔ (v = .int .i64 (g1 ⟨x4, x2, x6, x7⟩))) := Lib.hid fun v W => by rw [hP] <;> exact Iff.rfl
        have HPI11 : Hid (∀ v W, P 11 v W ↔ (v = .pointer (some ⟨bP, 5, none⟩))) := Lib.hid fun v W => by rw [hP] <;> exact Iff.rfl
        have HPI12 : Hid (∀ v W, P 12 v W ↔ (v = .int .i64 x5)) := Lib.hid fun v W => by rw [hP] <;> exact Iff.rfl
        have HPI13 : Hid (∀ v W, P 13 v W ↔ (v = .int .i64 (g1 ⟨x4, x2, x6, x7⟩ - x5))) := Lib.hid fun v W => by rw [hP] <;> exact Iff.rfl
        have HPI14 : Hid (∀ v W, P 14 v W ↔ (∃ vq sq, v = .tuple #[vq, goInt sq] ∧ EntS W bM (2 * k + 1) g1 ⟨x4, x2, x6, x7⟩ sq)) := Lib.hid fun v W => by rw [hP] <;> exact Iff.rfl
        have HPI15 : Hid (∀ v W, P 15 v W ↔ (v = undef)) := Lib.hid fun v W => by rw [hP] <;> exact Iff.rfl
        have HKP : Hid (∀ (j : Nat) v W W', Below W.heap.size W W' → P j v W → P j v W') := Lib.hid (by
          rw [hP]
          intro j v W W' hb h
          match j, h with
          | 0, h => exact h
          | 1, h => exact h
          | 2, h => exact h
          | 3, h => exact h
          | 4, h => exact h
          | 5, h => exact h
          | 6, h => exact h
          | 7, h => exact h
          | 8, h => exact h
          | 9, h => exact h
          | 10, h => exact h
          | 11, h => exact h
          | 12, h => exact h
          | 13, h => exact h
          | 14, ⟨vq, sq, e, s0⟩ => exact ⟨vq, sq, e, s0.below hb⟩
          | 15, h => exact h
          | j + 16, _ => trivial)
        have HKX : Hid (∀ (j : Nat) v W W', j ≠ 14 → P j v W → P j v W') := Lib.hid (by
          rw [hP]
          intro j v W W' hj h
          match j, hj, h with
          | 0, _, h => exact h
          | 1, _, h => exact h
          | 2, _, h => exact h
          | 3, _, h => exact h
          | 4, _, h => exact h
          | 5, _, h => exact h
          | 6, _, h => exact h
          | 7, _, h => exact h
          | 8, _, h => exact h
          | 9, _, h => exact h
          | 10, _, h => exact h
          | 11, _, h => exact h
          | 12, _, h => exact h
          | 13, _, h => exact h
          | 14, hj, _ => exact absurd rfl hj
          | 15, _, h => exact h
          | j + 16, _, _ => trivial)
        clear hP
        refine wp_region_tail2 [40, 41, 42, 43, 44, 45, 46, 47, 48, 49, 50, 51, 52, 53, 54, 55] (slotS [40, 41, 42, 43, 44, 45, 46, 47, 48, 49, 50, 51, 52, 53, 54, 55]) (rdE 54 55 15 [40, 41, 42, 43, 44, 45, 46, 47, 48, 49, 50, 51, 52, 53, 54, 55]) (RPE 54 55 15 [40, 41, 42, 43, 44, 45, 46, 47, 48, 49, 50, 51, 52, 53, 54, 55] P) (fun b _ W => J W ∧ (b = false → MapS W bM (2 * k + 1) g1)) 14 0 (fun kt f W => match kt with | 0 => (∃ (sq : Int), f 40 = .map (some bM) ∧ f 53 = .int .i64 (g1 ⟨x4, x2, x6, x7⟩ - x5) ∧ f 55 = goInt sq ∧ EntS W bM (2 * k + 1) g1 ⟨x4, x2, x6, x7⟩ sq ∧ wc.grownBy W (some bM)) | _ => (MapS W bM (2 * k + 1 + 1) g2 ∧ wc.grownBy W (some bM))) 16 8 (by decide) (by decide) (by decide) (by kernel_rfl) (by kernel_rfl) (by kernel_rfl) (by kernel_rfl)  ⟨HJD.out _ HJ0.out, fun _ => HJM.out⟩ (fun j f q v W hq h => RPE.upd hq h) ?_ ?_ ?_ ?_
        case refine_1 =>
          intro iq hiq f W b1 c1 hIW0 hb0 hc0 hdep0
          have hIW := hIW0.1
          have hdep : ∀ j, j ≠ 15 → depB _ iq j = true → P j (f (slotS [40, 41, 42, 43, 44, 45, 46, 47, 48, 49, 50, 51, 52, 53, 54, 55] j)) W := fun j hj h => RPE.plain hj (hdep0 j h)
          clear hdep0
          generalize ha1 : putsL _ [40, 41, 42, 43, 44, 45, 46, 47, 48, 49, 50, 51, 52, 53, 54, 55] f = a1
          match iq, hiq, hb0, hdep with
          | 0, _, hb0, hdep0 =>
            have E5 : a1.tmps[5]?.getD undef = .map (some bM) := by rw [← ha1]; exact (putsL_out2 _ _ _ _ (by decide)).trans rfl
            exact wpOp_val rfl rfl (v := .map (some bM)) (w' := W) (by simp [execOp, go_sem, E5]) ⟨⟨hIW, fun hbb => hIW0.2 (by simpa using hbb)⟩, fun _ _ h => h, _, by decide, rfl, RPE.set (by decide) ((HPI0.out _ _).2 rfl)⟩
          | 1, _, hb0, hdep0 =>
            have E7 : a1.tmps[7]?.getD undef = .pointer (some ⟨bP, 0, none⟩) := by rw [← ha1]; exact (putsL_out2 _ _ _ _ (by decide)).trans rfl
            exact wpOp_val rfl rfl (v := .pointer (some ⟨bP, 4, none⟩)) (w' := W) (by simp [execOp, go_sem, E7]) ⟨⟨hIW, fun hbb => hIW0.2 (by simpa using hbb)⟩, fun _ _ h => h, _, by decide, rfl, RPE.set (by decide) ((HPI1.out _ _).2 rfl)⟩
          | 2, _, hb0, hdep0 =>
            have hd1 := (HPI1.out _ _).1 (hdep0 1 (by decide) (by kernel_rfl))
            have E41 : a1.tmps[41]?.getD undef = .pointer (some ⟨bP, 4, none⟩) := by rw [← ha1]; exact (putsL_in2 _ _ _ _ (by decide) (show 41 < 58 from by decide)).trans hd1
            have v4 : W.cell? ⟨bP, 4, none⟩ = some (.int .i64 x4) := by simpa using HMP.out W hIW 4
            exact wpOp_val rfl rfl (v := .int .i64 x4) (w' := W) (by simp [execOp, go_sem, E41, v4]) ⟨⟨hIW, fun hbb => hIW0.2 (by simpa using hbb)⟩, fun _ _ h => h, _, by decide, rfl, RPE.set (by decide) ((HPI2.out _ _).2 rfl)⟩
          | 3, _, hb0, hdep0 =>
            have E7 : a1.tmps[7]?.getD undef = .pointer (some ⟨bP, 0, none⟩) := by rw [← ha1]; exact (putsL_out2 _ _ _ _ (by decide)).trans rfl
            exact wpOp_val rfl rfl (v := .pointer (some ⟨bP, 2, none⟩)) (w' := W) (by simp [execOp, go_sem, E7]) ⟨⟨hIW, fun hbb => hIW0.2 (by simpa using hbb)⟩, fun _ _ h => h, _, by decide, rfl, RPE.set (by decide) ((HPI3.out _ _).2 rfl)⟩
          | 4, _, hb0, hdep0 =>
            have hd3 := (HPI3.out _ _).1 (hdep0 3 (by decide) (by kernel_rfl))
            have E43 : a1.tmps[43]?.getD undef = .pointer (some ⟨bP, 2, none⟩) := by rw [← ha1]; exact (putsL_in2 _ _ _ _ (by decide) (show 43 < 58 from by decide)).trans hd3
            have v2 : W.cell? ⟨bP, 2, none⟩ = some (.int .i64 x2) := by simpa using HMP.out W hIW 2
            exact wpOp_val rfl rfl (v := .int .i64 x2) (w' := W) (by simp [execOp, go_sem, E43, v2]) ⟨⟨hIW, fun hbb => hIW0.2 (by simpa using hbb)⟩, fun _ _ h => h, _, by decide, rfl, RPE.set (by decide) ((HPI4.out _ _).2 rfl)⟩
          | 5, _, hb0, hdep0 =>
            have E7 : a1.tmps[7]?.getD undef = .pointer (some ⟨bP, 0, none⟩) := by rw [← ha1]; exact (putsL_out2 _ _ _ _ (by decide)).trans rfl
            exact wpOp_val rfl rfl (v := .pointer (some ⟨bP, 6, none⟩)) (w' := W) (by simp [execOp, go_sem, E7]) ⟨⟨hIW, fun hbb => hIW0.2 (by simpa using hbb)⟩, fun _ _ h => h, _, by decide, rfl, RPE.set (by decide) ((HPI5.out _ _).2 rfl)⟩
          | 6, _, hb0, hdep0 =>
            have hd5 := (HPI5.out _ _).1 (hdep0 5 (by decide) (by kernel_rfl))
            have E45 : a1.tmps[45]?.getD undef = .pointer (some ⟨bP, 6, none⟩) := by rw [← ha1]; exact (putsL_in2 _ _ _ _ (by decide) (show 45 < 58 from by decide)).trans hd5
            have v6 : W.cell? ⟨bP, 6, none⟩ = some (.int .i64 x6) := by simpa using HMP.out W hIW 6
            exact wpOp_val rfl rfl (v := .int .i64 x6) (w' := W) (by simp [execOp, go_sem, E45, v6]) ⟨⟨hIW, fun hbb => hIW0.2 (by simpa using hbb)⟩, fun _ _ h => h, _, by decide, rfl, RPE.set (by decide) ((HPI6.out _ _).2 rfl)⟩
          | 7, _, hb0, hdep0 =>
            have E7 : a1.tmps[7]?.getD undef = .pointer (some ⟨bP, 0, none⟩) := by rw [← ha1]; exact (putsL_out2 _ _ _ _ (by decide)).trans rfl
            exact wpOp_val rfl rfl (v := .pointer (some ⟨bP, 7, none⟩)) (w' := W) (by simp [execOp, go_sem, E7]) ⟨⟨hIW, fun hbb => hIW0.2 (by simpa using hbb)⟩, fun _ _ h => h, _, by decide, rfl, RPE.set (by decide) ((HPI7.out _ _).2 rfl)⟩
          | 8, _, hb0, hdep0 =>
            have hd7 := (HPI7.out _ _).1 (hdep0 7 (by decide) (by kernel_rfl))
            have E47 : a1.tmps[47]?.getD undef = .pointer (some ⟨bP, 7, none⟩) := by rw [← ha1]; exact (putsL_in2 _ _ _ _ (by decide) (show 47 < 58 from by decide)).trans hd7
            have v7 : W.cell? ⟨bP, 7, none⟩ = some (.int .i64 x7) := by simpa using HMP.out W hIW 7
            exact wpOp_val rfl rfl (v := .int .i64 x7) (w' := W) (by simp [execOp, go_sem, E47, v7]) ⟨⟨hIW, fun hbb => hIW0.2 (by simpa using hbb)⟩, fun _ _ h => h, _, by decide, rfl, RPE.set (by decide) ((HPI8.out _ _).2 rfl)⟩
          | 9, _, hb0, hdep0 =>
            have hd2 := (HPI2.out _ _).1 (hdep0 2 (by decide) (by kernel_rfl))
            have hd4 := (HPI4.out _ _).1 (hdep0 4 (by decide) (by kernel_rfl))
            have hd6 := (HPI6.out _ _).1 (hdep0 6 (by decide) (by kernel_rfl))
            have hd8 := (HPI8.out _ _).1 (hdep0 8 (by decide) (by kernel_rfl))
            have E42 : a1.tmps[42]?.getD undef = .int .i64 x4 := by rw [← ha1]; exact (putsL_in2 _ _ _ _ (by decide) (show 42 < 58 from by decide)).trans hd2
            have E44 : a1.tmps[44]?.getD undef = .int .i64 x2 := by rw [← ha1]; exact (putsL_in2 _ _ _ _ (by decide) (show 44 < 58 from by decide)).trans hd4
            have E46 : a1.tmps[46]?.getD undef = .int .i64 x6 := by rw [← ha1]; exact (putsL_in2 _ _ _ _ (by decide) (show 46 < 58 from by decide)).trans hd6
            have E48 : a1.tmps[48]?.getD undef = .int .i64 x7 := by rw [← ha1]; exact (putsL_in2 _ _ _ _ (by decide) (show 48 < 58 from by decide)).trans hd8
            exact wpOp_val rfl rfl (v := .agg #[.int .i64 x4, .int .i64 x2, .int .i64 x6, .int .i64 x7]) (w' := W) (by simp [execOp, go_sem, E42, E44, E46, E48]) ⟨⟨hIW, fun hbb => hIW0.2 (by simpa using hbb)⟩, fun _ _ h => h, _, by decide, rfl, RPE.set (by decide) ((HPI9.out _ _).2 rfl)⟩
          | 10, _, hb0, hdep0 =>
            have hd0 := (HPI0.out _ _).1 (hdep0 0 (by decide) (by kernel_rfl))
            have hd9 := (HPI9.out _ _).1 (hdep0 9 (by decide) (by kernel_rfl))
            have E40 : a1.tmps[40]?.getD undef = .map (some bM) := by rw [← ha1]; exact (putsL_in2 _ _ _ _ (by decide) (show 40 < 58 from by decide)).trans hd0
            have E49 : a1.tmps[49]?.getD undef = .agg #[.int .i64 x4, .int .i64 x2, .int .i64 x6, .int .i64 x7] := by rw [← ha1]; exact (putsL_in2 _ _ _ _ (by decide) (show 49 < 58 from by decide)).trans hd9
            have hlk : (Instr.lookup 65 (.map (some bM)) (.agg #[.int .i64 x4, .int .i64 x2, .int .i64 x6, .int .i64 x7]) false).run Try.prog W = .ok (.int .i64 (g1 ⟨x4, x2, x6, x7⟩)) W := look_S (HJO.out W hIW).2.choose_spec.2 HKI.out
            exact wpOp_val rfl rfl (v := .int .i64 (g1 ⟨x4, x2, x6, x7⟩)) (w' := W) (by simp [execOp, go_sem, E40, E49, hlk]) ⟨⟨hIW, fun hbb => hIW0.2 (by simpa using hbb)⟩, fun _ _ h => h, _, by decide, rfl, RPE.set (by decide) ((HPI10.out _ _).2 rfl)⟩
          | 11, _, hb0, hdep0 =>
            have E7 : a1.tmps[7]?.getD undef = .pointer (some ⟨bP, 0, none⟩) := by rw [← ha1]; exact (putsL_out2 _ _ _ _ (by decide)).trans rfl
            exact wpOp_val rfl rfl (v := .pointer (some ⟨bP, 5, none⟩)) (w' := W) (by simp [execOp, go_sem, E7]) ⟨⟨hIW, fun hbb => hIW0.2 (by simpa using hbb)⟩, fun _ _ h => h, _, by decide, rfl, RPE.set (by decide) ((HPI11.out _ _).2 rfl)⟩
          | 12, _, hb0, hdep0 =>
            have hd11 := (HPI11.out _ _).1 (hdep0 11 (by decide) (by kernel_rfl))
            have E51 : a1.tmps[51]?.getD undef = .pointer (some ⟨bP, 5, none⟩) := by rw [← ha1]; exact (putsL_in2 _ _ _ _ (by decide) (show 51 < 58 from by decide)).trans hd11
            have v5 : W.cell? ⟨bP, 5, none⟩ = some (.int .i64 x5) := by simpa using HMP.out W hIW 5
            exact wpOp_val rfl rfl (v := .int .i64 x5) (w' := W) (by simp [execOp, go_sem, E51, v5]) ⟨⟨hIW, fun hbb => hIW0.2 (by simpa using hbb)⟩, fun _ _ h => h, _, by decide, rfl, RPE.set (by decide) ((HPI12.out _ _).2 rfl)⟩
          | 13, _, hb0, hdep0 =>
            have hd10 := (HPI10.out _ _).1 (hdep0 10 (by decide) (by kernel_rfl))
            have hd12 := (HPI12.out _ _).1 (hdep0 12 (by decide) (by kernel_rfl))
            have E50 : a1.tmps[50]?.getD undef = .int .i64 (g1 ⟨x4, x2, x6, x7⟩) := by rw [← ha1]; exact (putsL_in2 _ _ _ _ (by decide) (show 50 < 58 from by decide)).trans hd10
            have E52 : a1.tmps[52]?.getD undef = .int .i64 x5 := by rw [← ha1]; exact (putsL_in2 _ _ _ _ (by decide) (show 52 < 58 from by decide)).trans hd12
            exact wpOp_val rfl rfl (v := .int .i64 (g1 ⟨x4, x2, x6, x7⟩ - x5)) (w' := W) (by simp [execOp, go_sem, E50, E52, hwy]) ⟨⟨hIW, fun hbb => hIW0.2 (by simpa using hbb)⟩, fun _ _ h => h, _, by decide, rfl, RPE.set (by decide) ((HPI13.out _ _).2 rfl)⟩
          | 14, _, hb0, hdep0 =>
            have hd0 := (HPI0.out _ _).1 (hdep0 0 (by decide) (by kernel_rfl))
            have hd9 := (HPI9.out _ _).1 (hdep0 9 (by decide) (by kernel_rfl))
            have E40 : a1.tmps[40]?.getD undef = .map (some bM) := by rw [← ha1]; exact (putsL_in2 _ _ _ _ (by decide) (show 40 < 58 from by decide)).trans hd0
            have E49 : a1.tmps[49]?.getD undef = .agg #[.int .i64 x4, .int .i64 x2, .int .i64 x6, .int .i64 x7] := by rw [← ha1]; exact (putsL_in2 _ _ _ _ (by decide) (show 49 < 58 from by decide)).trans hd9
            have E40a := E40
            refine wpOp_entryS rfl rfl (.tmp 40) (.tmp 49) rfl bM (2 * k + 1) g1 ⟨x4, x2, x6, x7⟩ (by simp [go_sem, E40]) (by simp [go_sem, E49, sdC]) (hIW0.2 (hb0 rfl)) (by unfold maxLen; omega) HKI.out ?_
            intro v0 st W1 hE hM1 hg
            exact ⟨⟨HJI.out _ ⟨(HJO.out W hIW).1.trans hg, _, Nat.le_refl _, hM1⟩, fun hbb => by simp at hbb⟩, fun j hj h => RPE.other (fun v h2 => HKX.out j v W W1 hj h2) h, _, by decide, rfl, RPE.set (by decide) ((HPI14.out _ _).2 ⟨_, _, rfl, hE⟩)⟩
          | 15, _, hb0, hdep0 =>
            have hd14 := (HPI14.out _ _).1 (hdep0 14 (by decide) (by kernel_rfl))
            obtain ⟨vq, sq, q14, r14_0⟩ := hd14
            have E54 : a1.tmps[54]?.getD undef = .tuple #[vq, goInt sq] := by rw [← ha1]; exact (putsL_in2 _ _ _ _ (by decide) (show 54 < 58 from by decide)).trans q14
            exact wpOp_val rfl rfl (v := goInt sq) (w' := W) (by simp [execOp, go_sem, E54]) ⟨⟨hIW, fun hbb => hIW0.2 (by simpa using hbb)⟩, fun _ _ h => h, _, by decide, rfl, RPE.link (by decide) q14⟩
          | iq + 16, h, _, _ => exact absurd h (by omega)
        case refine_2 =>
          intro f W hIW hR
          have h40 := (HPI0.out _ _).1 (RPE.plain (by decide) (hR 0 (by decide)))
          have h53 := (HPI13.out _ _).1 (RPE.plain (by decide) (hR 13 (by decide)))
          have h54 := (HPI14.out _ _).1 (RPE.plain (by decide) (hR 14 (by decide)))
          obtain ⟨vq, sq, h54, hE⟩ := h54
          replace h54 : f 54 = .tuple #[vq, goInt sq] := h54
          have hl : ∃ v1, f 54 = .tuple #[v1, f 55] := RPE.get (hR 15 (by decide))
          obtain ⟨v1, hl⟩ := hl
          rw [h54] at hl
          have h55 : f 55 = goInt sq := by injection hl with hl; have := congrArg (fun a => a[1]?) hl; simpa using this.symm
          exact ⟨sq, h40, h53, h55, hE, (HJO.out W hIW.1).1⟩
        case refine_3 =>
          intro iq hsq hiq f W hIt0
          have hiq2 : iq < 17 := hiq
          have hIt := hIt0
          clear hIt0
          rcases (show iq = 16 by omega) with rfl
          · clear hsq hiq hiq2
            obtain ⟨sq, h0, h1, h2, hE, hg⟩ := hIt
            refine wpOp_estoreS rfl rfl (.tmp 40) (.tmp 55) (.tmp 53) rfl bM (2 * k + 1) g1 ⟨x4, x2, x6, x7⟩ sq (g1 ⟨x4, x2, x6, x7⟩ - x5) ?_ ?_ ?_ hE HYI.out g2 HGO.out HGK.out ?_
            · exact (putsL_in _ _ _ _ (by decide) (show 40 < 58 from by decide)).trans h0
            · exact (putsL_in _ _ _ _ (by decide) (show 55 < 58 from by decide)).trans h2
            · exact (putsL_in _ _ _ _ (by decide) (show 53 < 58 from by decide)).trans h1
            · intro W1 hM hg1
              exact ⟨f, rfl, hM, hg.trans hg1⟩
        case refine_4 =>
          intro f W hIt
          simp only [putsL, List.foldl_cons, List.foldl_nil, Act.put, List.setIfInBounds_toArray, List.set_cons_zero, List.set_cons_succ]
          obtain ⟨hM, hg⟩ := hIt
          have HM6 : Hid (MapS W bM (2 * (k + 1)) (sideQ d (l.take (k + 1)))) := Lib.hid ((hM.mono (by omega)).congr HG2.out)
          have HB6 : Hid (Below w.heap.size w W) := Lib.hid (HB5.out.grown hg HB5.out.size fun j e => by injection e with e; have := HBW.out; omega)
          clear hM hg HKX HKP HJ0 HJD HMP HJM HJO HJI HKI HYI HGO HGK hwy HM5 HX5 HB5
          go_wp2
          go_roundw
          case rel => exact ⟨k + 1, by first | rfl | go_num, by omega, HM6, HB6⟩
          case measure => simp [RowKit.intOf]; omega
      · have hdn : ¬ (x1 ≤ d) := hd
        go_wp2
        go_roundw
        case rel => exact ⟨k + 1, by first | rfl | go_num, by omega, Lib.hid ((HMQ.out.mono (by omega)).congr fun s => (HSL.out hd s).symm), HBP⟩
        case measure => simp [RowKit.intOf]; omega
    · obtain rfl : k = n := by omega
      go_wp2
      go_ret
      refine ⟨_, rfl, HBW.out, ?_, HB.out⟩
      rw [show l.take k = l by rw [HN.out, List.take_length]] at HM
      exact HM.out.mono (by omega)

end Go.Proofs.Ytdbpbmejgdbppaa
