/- Histories, as mathematics and in memory: right corrections, what was presented, the statement of a year; of no function of the program; no condition. -/
import Derived.Test.YtoccnindkimjdaaMLgHs
import Derived.Test.YtoccnindkimjdaaMLgQ
set_option linter.unusedSimpArgs false
set_option linter.unusedVariables false
set_option linter.unusedSimpArgs false
set_option linter.unusedVariables false
namespace Go.Proofs.Ytoccnindkimjdaa
open Go.RowKit Go.Lib Go.Proofs

/-! ### In memory -/
structure Stm where
  ast : Int
  lia : Int
  wor : Int
  rev : Int
  exp : Int
def stmC (x : Stm) : List Value := [.int .i64 x.ast, .int .i64 x.lia, .int .i64 x.wor, .int .i64 x.rev, .int .i64 x.exp]
structure Prs where
  yr : Int
  ver : Int
  st : Stm
def prsC (p : Prs) : List Value := [.int .i64 p.yr, .int .i64 p.ver, .int .i64 p.st.ast, .int .i64 p.st.lia, .int .i64 p.st.wor, .int .i64 p.st.rev, .int .i64 p.st.exp]
theorem prsF : Fields prsC 7 := ⟨fun _ => rfl, fun _ u hu => by simp only [prsC, List.mem_cons, List.mem_nil_iff, or_false] at hu; rcases hu with rfl | rfl | rfl | rfl | rfl | rfl | rfl <;> rfl, by decide⟩
/-- A slice as it lies. -/
structure Sli where
  ad : Option Addr
  n : Nat
  cap : Nat
def Sli.v (x : Sli) : Value := .slice x.ad x.n x.cap
/-- A correction: its year, the day on which it was found, its postings. -/
structure Cor where
  yr : Int
  fnd : Int
  ps : List Pst
/-- The cells of a correction. -/
structure Crr where
  yr : Int
  fnd : Int
  sl : Sli
def crrC (c : Crr) : List Value := [.int .i64 c.yr, .int .i64 c.fnd, .slice c.sl.ad c.sl.n c.sl.cap]
theorem crrF : Fields crrC 3 := ⟨fun _ => rfl, fun _ u hu => by simp only [crrC, List.mem_cons, List.mem_nil_iff, or_false] at hu; rcases hu with rfl | rfl | rfl <;> rfl, by decide⟩
def CorsR (w : World) : List Crr → List Cor → Prop
  | [], [] => True
  | r :: rs, c :: cs => (r.yr = c.yr ∧ r.fnd = c.fnd ∧ PstsAt w r.sl.v c.ps) ∧ CorsR w rs cs
  | [], _ :: _ => False
  | _ :: _, [] => False
theorem CorsR.len {w : World} : ∀ {rs : List Crr} {cs : List Cor}, CorsR w rs cs → rs.length = cs.length
  | [], [], _ => rfl
  | _ :: _, _ :: _, h => by simp [CorsR.len h.2]
  | [], _ :: _, h => h.elim
  | _ :: _, [], h => h.elim
theorem CorsR.get {w : World} : ∀ {rs : List Crr} {cs : List Cor}, CorsR w rs cs → ∀ i (h1 : i < rs.length) (h2 : i < cs.length), rs[i].yr = cs[i].yr ∧ rs[i].fnd = cs[i].fnd ∧ PstsAt w rs[i].sl.v cs[i].ps
  | r :: rs, c :: cs, h, 0, _, _ => h.1
  | r :: rs, c :: cs, h, i + 1, h1, h2 => CorsR.get h.2 i (by simpa using h1) (by simpa using h2)
  | [], [], _, _, h1, _ => by simp at h1
  | [], _ :: _, h, _, _, _ => h.elim
  | _ :: _, [], h, _, _, _ => h.elim
theorem CorsR.imp {A B : World} (hs : ∀ (v : Value) (l : List Pst), PstsAt A v l → PstsAt B v l) : ∀ {rs : List Crr} {cs : List Cor}, CorsR A rs cs → CorsR B rs cs
  | [], [], _ => trivial
  | _ :: _, _ :: _, h => ⟨⟨h.1.1, h.1.2.1, hs _ _ h.1.2.2⟩, CorsR.imp hs h.2⟩
  | [], _ :: _, h => h.elim
  | _ :: _, [], h => h.elim
theorem CorsR.snoc {w : World} {r : Crr} {c : Cor} (h1 : r.yr = c.yr) (h2 : r.fnd = c.fnd) (h3 : PstsAt w r.sl.v c.ps) : ∀ {rs : List Crr} {cs : List Cor}, CorsR w rs cs → CorsR w (rs ++ [r]) (cs ++ [c])
  | [], [], _ => ⟨⟨h1, h2, h3⟩, trivial⟩
  | _ :: _, _ :: _, h => ⟨h.1, CorsR.snoc h1 h2 h3 h.2⟩
  | [], _ :: _, h => h.elim
  | _ :: _, [], h => h.elim
def CorsAt (w : World) (v : Value) (cs : List Cor) : Prop := ∃ rs : List Crr, ListAt crrC 3 w v rs ∧ CorsR w rs cs
theorem list_move {α : Type} {f : α → List Value} {m : Nat} (hf : Fields f m) (hm : 2 ≤ m) (hi : ∀ a, ∃ x y : Int, (f a)[0]? = some (.int .i64 x) ∧ (f a)[1]? = some (.int .i64 y)) {w w' : World} {v : Value} {l : List α} {b0 : Nat} (h : ListAt f m w v l) (hne : ∀ b o x y, w.cell? ⟨b, o, none⟩ = some (.int .i64 x) → w.cell? ⟨b, o + 1, none⟩ = some (.int .i64 y) → b ≠ b0) (hg : w.grownBy w' (some b0)) : ListAt f m w' v l := by
  obtain ⟨aK, cK, e0, hcap, hc⟩ := h.shape hf
  obtain ⟨h1, ao', cap', h2, h3, h4⟩ := h
  refine ⟨h1, ao', cap', h2, h3, ?_⟩
  rcases h4 with h4 | ⟨b', o', e, hb', hc'⟩
  · exact Or.inl h4
  · by_cases hl : l.length = 0
    · exact Or.inl hl
    · obtain ⟨b, o, h5, h6, h7⟩ := hc (by omega)
      rw [e0] at h2
      injection h2 with h8 _ _
      rw [h5, e] at h8
      injection h8 with h8
      injection h8 with h9 h10 _
      subst h9 h10
      obtain ⟨x, y, g0, g1⟩ := hi (l[0]'(by omega))
      have k0 := (h7 0 (by omega) 0 (by omega)).trans g0
      have k1 := (h7 0 (by omega) 1 (by omega)).trans g1
      simp only [Nat.zero_mul, Nat.add_zero] at k0 k1
      have hb0 := hne _ _ _ _ k0 k1
      refine Or.inr ⟨b, o, e, Nat.lt_of_lt_of_le hb' hg.size, fun j hj => ?_⟩
      rw [← hc' j hj]
      unfold World.cell?
      simp only
      rw [hg.block b hb' (by simp [hb0])]
theorem prs_two (a : Prs) : ∃ x y : Int, (prsC a)[0]? = some (.int .i64 x) ∧ (prsC a)[1]? = some (.int .i64 y) := ⟨_, _, rfl, rfl⟩
theorem crr_two (a : Crr) : ∃ x y : Int, (crrC a)[0]? = some (.int .i64 x) ∧ (crrC a)[1]? = some (.int .i64 y) := ⟨_, _, rfl, rfl⟩
theorem CorsAt.below {A B : World} {v : Value} {cs : List Cor} (h : CorsAt A v cs) (hb : Below A.heap.size A B) : CorsAt B v cs := by
  obtain ⟨rs, h1, h2⟩ := h
  exact ⟨rs, h1.below hb, h2.imp fun _ _ q => ListAt.below q hb⟩
theorem CorsAt.move {A B : World} {v : Value} {cs : List Cor} {b0 : Nat} (h : CorsAt A v cs) (hne : ∀ b o x y, A.cell? ⟨b, o, none⟩ = some (.int .i64 x) → A.cell? ⟨b, o + 1, none⟩ = some (.int .i64 y) → b ≠ b0) (hg : A.grownBy B (some b0)) : CorsAt B v cs := by
  obtain ⟨rs, h1, h2⟩ := h
  exact ⟨rs, list_move crrF (by decide) crr_two h1 hne hg, h2.imp fun _ _ q => psts_move q hne hg⟩
/-- A history. -/
structure Hst where
  led : List Pst
  pres : List Prs
  cors : List Cor
structure HstAt (w : World) (vl vp vc : Value) (h : Hst) : Prop where
  led : PstsAt w vl h.led
  pres : ListAt prsC 7 w vp h.pres
  cors : CorsAt w vc h.cors
theorem HstAt.below {A B : World} {vl vp vc : Value} {h : Hst} (q : HstAt A vl vp vc h) (hb : Below A.heap.size A B) : HstAt B vl vp vc h := ⟨ListAt.below q.led hb, ListAt.below q.pres hb, q.cors.below hb⟩
theorem HstAt.turn {A B : World} {vl vp vc : Value} {h : Hst} {tb : Nat} (q : HstAt A vl vp vc h) (hs : SrcAt A tb) (hg : A.grownBy B (some tb)) : HstAt B vl vp vc h :=
  ⟨PstsAt.turn q.led hs hg, list_move prsF (by decide) prs_two q.pres (fun _ _ _ _ h0 h1 => not_src hs h0 h1) hg, q.cors.move (fun _ _ _ _ h0 h1 => not_src hs h0 h1) hg⟩
theorem HstAt.keep {A B : World} {vl vp vc : Value} {h : Hst} {b0 : Nat} (q : HstAt A vl vp vc h) (hl : Lone A b0) (hg : A.grownBy B (some b0)) : HstAt B vl vp vc h :=
  ⟨PstsAt.keep q.led hl hg, list_move prsF (by decide) prs_two q.pres (fun b o x y h0 h1 e => by subst e; exact hl _ _ _ h0 h1) hg, q.cors.move (fun b o x y h0 h1 e => by subst e; exact hl _ _ _ h0 h1) hg⟩
/-- The parts of a history's slices. -/
theorem HstAt.parts {w : World} {vl vp vc : Value} {h : Hst} (q : HstAt w vl vp vc h) : ∃ (al ap ac : Option Addr) (cl cp cc : Nat), vl = .slice al h.led.length cl ∧ vp = .slice ap h.pres.length cp ∧ vc = .slice ac h.cors.length cc := by
  obtain ⟨al, cl, e1, -, -⟩ := q.led.shape pstF
  obtain ⟨ap, cp, e2, -, -⟩ := q.pres.shape prsF
  obtain ⟨rs, h1, h2⟩ := q.cors
  obtain ⟨ac, cc, e3, -, -⟩ := h1.shape crrF
  rw [h2.len] at e3
  exact ⟨al, ap, ac, cl, cp, cc, e1, e2, e3⟩

/-! ### Right histories -/
def versM (y : Int) : List Prs → Int
  | [] => 0
  | p :: l => (if p.yr = y then 1 else 0) + versM y l
theorem versM_snoc (y : Int) (p : Prs) : ∀ l : List Prs, versM y (l ++ [p]) = versM y l + (if p.yr = y then 1 else 0)
  | [] => by simp [versM]
  | q :: l => by simp only [List.cons_append, versM, versM_snoc y p l]; omega
theorem versM_len (y : Int) : ∀ l : List Prs, 0 ≤ versM y l ∧ versM y l ≤ (l.length : Int)
  | [] => by simp [versM]
  | q :: l => by
    have := versM_len y l
    simp only [versM, List.length_cons]
    split <;> omega
structure PstY (y : Int) (p : Pst) : Prop where
  ok : PstOk p
  sm : p.amt ≤ 1000
  yr : 360 * y ≤ p.day ∧ p.day ≤ 360 * y + 359
structure CorOk (c : Cor) : Prop where
  yr : 0 ≤ c.yr ∧ c.yr ≤ 99
  fnd : 360 * c.yr + 360 ≤ c.fnd ∧ c.fnd ≤ 36000
  len : 1 ≤ c.ps.length ∧ c.ps.length ≤ 3
  ps : ∀ p ∈ c.ps, PstY c.yr p
structure HstOk (h : Hst) : Prop where
  led : LdgOk h.led
  ln : h.led.length ≤ 100
  sm : ∀ p ∈ h.led, p.amt ≤ 1000
  nc : h.cors.length ≤ 20
  np : h.pres.length ≤ 20
  cor : ∀ c ∈ h.cors, CorOk c
  asc : ∀ i (q : i + 1 < h.cors.length), (h.cors[i]).fnd ≤ (h.cors[i + 1]).fnd
  ver : ∀ i (q : i < h.pres.length), 0 ≤ (h.pres[i]).yr ∧ (h.pres[i]).yr ≤ 99 ∧ (h.pres[i]).ver = versM (h.pres[i]).yr (h.pres.take i) + 1
def lastF (l : List Cor) : Int := (l.getLast?.map Cor.fnd).getD 0
theorem lastF_snoc (l : List Cor) (c : Cor) : lastF (l ++ [c]) = c.fnd := by simp [lastF]
theorem lastF_at {l : List Cor} {m : Nat} (h : l.length = m + 1) : lastF l = (l[m]'(by omega)).fnd := by
  unfold lastF
  have e : l.length - 1 = m := by omega
  rw [List.getLast?_eq_getElem?, e, List.getElem?_eq_getElem (by omega)]
  rfl
theorem HstOk.addC {h : Hst} {c : Cor} (q : HstOk h) (hc : CorOk c) (hl : lastF h.cors ≤ c.fnd) (hn : h.cors.length < 20) : HstOk ⟨h.led, h.pres, h.cors ++ [c]⟩ := by
  refine ⟨q.led, q.ln, q.sm, by simp; omega, q.np, fun x hx => ?_, fun i hi => ?_, q.ver⟩
  · rcases List.mem_append.1 hx with hx | hx
    · exact q.cor x hx
    · simp at hx; subst hx; exact hc
  · have hi' : i + 1 < h.cors.length + 1 := by simpa using hi
    by_cases e : i + 1 < h.cors.length
    · show ((h.cors ++ [c])[i]).fnd ≤ ((h.cors ++ [c])[i + 1]).fnd
      rw [List.getElem_append_left (by omega), List.getElem_append_left e]
      exact q.asc i e
    · have e2 : h.cors.length = i + 1 := by omega
      show ((h.cors ++ [c])[i]).fnd ≤ ((h.cors ++ [c])[i + 1]).fnd
      rw [List.getElem_append_left (by omega), List.getElem_append_right (by omega)]
      simp only [e2, Nat.sub_self, List.getElem_cons_zero]
      rw [lastF_at e2] at hl
      exact hl
theorem HstOk.addP {h : Hst} {p : Prs} (q : HstOk h) (hy : 0 ≤ p.yr ∧ p.yr ≤ 99) (hv : p.ver = versM p.yr h.pres + 1) (hn : h.pres.length < 20) : HstOk ⟨h.led, h.pres ++ [p], h.cors⟩ := by
  refine ⟨q.led, q.ln, q.sm, q.nc, by simp; omega, q.cor, q.asc, fun i hi => ?_⟩
  have hi' : i < h.pres.length + 1 := by simpa using hi
  show 0 ≤ ((h.pres ++ [p])[i]).yr ∧ ((h.pres ++ [p])[i]).yr ≤ 99 ∧ ((h.pres ++ [p])[i]).ver = versM ((h.pres ++ [p])[i]).yr ((h.pres ++ [p]).take i) + 1
  by_cases e : i < h.pres.length
  · rw [List.getElem_append_left e, List.take_append_of_le_length (by omega)]
    exact q.ver i e
  · have e2 : i = h.pres.length := by omega
    subst e2
    rw [List.getElem_append_right (Nat.le_refl _), List.take_append_of_le_length (Nat.le_refl _), List.take_length]
    simp only [Nat.sub_self, List.getElem_cons_zero]
    exact ⟨hy.1, hy.2, hv⟩

/-! ### The statement of a year -/
def corPs (y : Int) : List Cor → List Pst
  | [] => []
  | c :: l => (if c.yr ≤ y then c.ps else []) ++ corPs y l
theorem corPs_snoc (y : Int) (c : Cor) : ∀ l : List Cor, corPs y (l ++ [c]) = corPs y l ++ (if c.yr ≤ y then c.ps else [])
  | [] => by simp [corPs]
  | q :: l => by simp only [List.cons_append, corPs, corPs_snoc y c l, List.append_assoc]
theorem corPs_mem {y : Int} {p : Pst} : ∀ {l : List Cor}, (∀ c ∈ l, CorOk c) → p ∈ corPs y l → PstOk p ∧ p.amt ≤ 1000
  | [], _, h => by simp [corPs] at h
  | c :: l, hc, h => by
    simp only [corPs, List.mem_append] at h
    rcases h with h | h
    · split at h
      · have := (hc c List.mem_cons_self).ps p h
        exact ⟨this.ok, this.sm⟩
      · simp at h
    · exact corPs_mem (fun x hx => hc x (List.mem_cons_of_mem _ hx)) h
theorem corPs_len {y : Int} : ∀ {l : List Cor}, (∀ c ∈ l, CorOk c) → (corPs y l).length ≤ 3 * l.length
  | [], _ => by simp [corPs]
  | c :: l, hc => by
    have h1 := (hc c List.mem_cons_self).len
    have h2 := corPs_len (y := y) (l := l) fun x hx => hc x (List.mem_cons_of_mem _ hx)
    simp only [corPs, List.length_append, List.length_cons]
    split
    · omega
    · simp; omega
def allM (y : Int) (h : Hst) : List Pst := h.led ++ corPs y h.cors
theorem HstOk.allMem {h : Hst} (q : HstOk h) (y : Int) : ∀ p ∈ allM y h, PstOk p ∧ p.amt ≤ 1000 := fun p hp => by
  rcases List.mem_append.1 hp with hp | hp
  · exact ⟨q.led.mem p hp, q.sm p hp⟩
  · exact corPs_mem q.cor hp
theorem HstOk.allLen {h : Hst} (q : HstOk h) (y : Int) : (allM y h).length ≤ 160 := by
  have h1 := corPs_len (y := y) q.cor
  have h2 := q.nc
  have h3 := q.ln
  unfold allM
  rw [List.length_append]
  omega
def stM (y : Int) (l : List Pst) : Stm := ⟨clsM 0 (byDay (360 * y + 359)) 1 l, -clsM 0 (byDay (360 * y + 359)) 2 l, -clsM 0 (ereDay (360 * y)) 3 l - clsM 0 (ereDay (360 * y)) 4 l - clsM 0 (ereDay (360 * y)) 5 l, -clsM 0 (amidDay (360 * y) (360 * y + 359)) 4 l, clsM 0 (amidDay (360 * y) (360 * y + 359)) 5 l⟩
def restM (y : Int) (h : Hst) : Stm := stM y (allM y h)
def Stm.add (a b : Stm) : Stm := ⟨a.ast + b.ast, a.lia + b.lia, a.wor + b.wor, a.rev + b.rev, a.exp + b.exp⟩
theorem cls_app (x : Int) (f : Int → Bool) (c : Int) : ∀ l m : List Pst, clsM x f c (l ++ m) = clsM x f c l + clsM x f c m
  | [], m => by simp [clsM]
  | p :: l, m => by simp only [List.cons_append, clsM, cls_app x f c l m]; omega
theorem stM_app (y : Int) (l m : List Pst) : stM y (l ++ m) = (stM y l).add (stM y m) := by
  have k := fun f c => cls_app 0 f c l m
  show Stm.mk _ _ _ _ _ = Stm.mk _ _ _ _ _
  congr 1
  · exact k _ _
  · show -clsM 0 (byDay (360 * y + 359)) 2 (l ++ m) = -clsM 0 (byDay (360 * y + 359)) 2 l + -clsM 0 (byDay (360 * y + 359)) 2 m
    rw [k]; omega
  · show -clsM 0 (ereDay (360 * y)) 3 (l ++ m) - clsM 0 (ereDay (360 * y)) 4 (l ++ m) - clsM 0 (ereDay (360 * y)) 5 (l ++ m) = (-clsM 0 (ereDay (360 * y)) 3 l - clsM 0 (ereDay (360 * y)) 4 l - clsM 0 (ereDay (360 * y)) 5 l) + (-clsM 0 (ereDay (360 * y)) 3 m - clsM 0 (ereDay (360 * y)) 4 m - clsM 0 (ereDay (360 * y)) 5 m)
    rw [k, k, k]; omega
  · show -clsM 0 (amidDay (360 * y) (360 * y + 359)) 4 (l ++ m) = -clsM 0 (amidDay (360 * y) (360 * y + 359)) 4 l + -clsM 0 (amidDay (360 * y) (360 * y + 359)) 4 m
    rw [k]; omega
  · exact k _ _
theorem stM_nil (y : Int) : stM y [] = ⟨0, 0, 0, 0, 0⟩ := rfl
theorem cls_perm (x : Int) (f : Int → Bool) (c : Int) {l m : List Pst} (h : l.Perm m) : clsM x f c l = clsM x f c m := by
  induction h with
  | nil => rfl
  | cons a _ ih => simp only [clsM, ih]
  | swap a b l => simp only [clsM]; omega
  | trans _ _ h1 h2 => exact h1.trans h2
theorem stM_perm (y : Int) {l m : List Pst} (h : l.Perm m) : stM y l = stM y m := by
  unfold stM
  rw [cls_perm _ _ _ h, cls_perm _ _ _ h, cls_perm _ _ _ h, cls_perm _ _ _ h, cls_perm _ _ _ h, cls_perm _ _ _ h, cls_perm _ _ _ h]
/-- Postings with the numbers 1, 2 and so on. -/
def renumG (n : Nat) : List Pst → List Pst
  | [] => []
  | p :: l => ⟨(n : Int) + 1, p.day, p.ent, p.deb, p.crd, p.amt, p.par, p.ref⟩ :: renumG (n + 1) l
theorem cls_renum (x : Int) (f : Int → Bool) (c : Int) : ∀ (n : Nat) (l : List Pst), clsM x f c (renumG n l) = clsM x f c l
  | _, [] => rfl
  | n, p :: l => by
    simp only [renumG, clsM, cls_renum x f c (n + 1) l]
    rfl
theorem stM_renum (y : Int) (n : Nat) (l : List Pst) : stM y (renumG n l) = stM y l := by
  unfold stM
  simp only [cls_renum]
theorem cls_small {x : Int} {f : Int → Bool} {c : Int} : ∀ {l : List Pst}, (∀ p ∈ l, PstOk p ∧ p.amt ≤ 1000) → -(1000 * (l.length : Int)) ≤ clsM x f c l ∧ clsM x f c l ≤ 1000 * (l.length : Int)
  | [], _ => by simp [clsM]
  | p :: l, h => by
    have h1 := cls_small (x := x) (f := f) (c := c) (l := l) fun q hq => h q (List.mem_cons_of_mem _ hq)
    have h2 := h p List.mem_cons_self
    have h3 := h2.1.amt
    have h4 : -1000 ≤ cnetP c p ∧ cnetP c p ≤ 1000 := by
      unfold cnetP
      constructor <;> (repeat' split) <;> omega
    simp only [clsM, List.length_cons]
    split <;> omega
structure StmIn (b : Int) (x : Stm) : Prop where
  ast : -b ≤ x.ast ∧ x.ast ≤ b
  lia : -b ≤ x.lia ∧ x.lia ≤ b
  wor : -b ≤ x.wor ∧ x.wor ≤ b
  rev : -b ≤ x.rev ∧ x.rev ≤ b
  exp : -b ≤ x.exp ∧ x.exp ≤ b
theorem stM_in {y : Int} {l : List Pst} (h : ∀ p ∈ l, PstOk p ∧ p.amt ≤ 1000) (hl : l.length ≤ 200) : StmIn 600000 (stM y l) := by
  have k := fun x f c => cls_small (x := x) (f := f) (c := c) h
  have k1 := k 0 (byDay (360 * y + 359)) 1
  have k2 := k 0 (byDay (360 * y + 359)) 2
  have k3 := k 0 (ereDay (360 * y)) 3
  have k4 := k 0 (ereDay (360 * y)) 4
  have k5 := k 0 (ereDay (360 * y)) 5
  have k6 := k 0 (amidDay (360 * y) (360 * y + 359)) 4
  have k7 := k 0 (amidDay (360 * y) (360 * y + 359)) 5
  constructor <;> simp only [stM] <;> omega
end Go.Proofs.Ytoccnindkimjdaa
