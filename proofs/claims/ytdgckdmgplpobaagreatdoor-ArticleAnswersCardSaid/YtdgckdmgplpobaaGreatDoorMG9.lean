/- Texts of one claim, merged: ParseM, RartQ. -/
import Derived.Test.YtdgckdmgplpobaaGreatDoorMG7
import Derived.Test.YtdgckdmgplpobaaGreatDoorMG8
import Derived.Test.YtdgckdmgplpobaaGreatDoorMG5
import Derived.Test.YtdgckdmgplpobaaGreatDoorMRtx
import Derived.Deep.RegionHeld3
import Derived.Deep.DeepCutAuto
import Derived.Deep.CutRange
/- What the article's reference makes out of the words of a text, as mathematics: the text of a plain article gives this article; of no function of the program; no condition. -/
set_option linter.unusedSimpArgs false
set_option linter.unusedVariables false
namespace Go.Proofs.YtdgckdmgplpobaaGreatDoor
open Go.RowKit Go.Lib Go.Proofs

def kindTo (x : ByteArray) (n : Nat) : Nat := (List.range n).foldl (fun k i => if 0 < i ∧ kindW.getD i ⟨#[]⟩ = x then i else k) 0
theorem kindTo_succ (x : ByteArray) (n : Nat) : kindTo x (n + 1) = if 0 < n ∧ kindW.getD n ⟨#[]⟩ = x then n else kindTo x n := by
  unfold kindTo
  rw [List.range_succ, List.foldl_append]
  rfl
theorem kindTo_le (x : ByteArray) : ∀ n, kindTo x n ≤ n
  | 0 => Nat.le_refl _
  | n + 1 => by
    rw [kindTo_succ]
    split
    · omega
    · have := kindTo_le x n; omega
def whatTo (x : ByteArray) (n : Nat) : Nat := (List.range n).foldl (fun k i => if kindW.getD (i + 3) ⟨#[]⟩ = x then i + 1 else k) 0
theorem whatTo_succ (x : ByteArray) (n : Nat) : whatTo x (n + 1) = if kindW.getD (n + 3) ⟨#[]⟩ = x then n + 1 else whatTo x n := by
  unfold whatTo
  rw [List.range_succ, List.foldl_append]
  rfl

def pad8 (l : List ByteArray) : List ByteArray := l ++ List.replicate (8 - l.length) ⟨#[]⟩
def firstW (t : ByteArray) : ByteArray := ((cutK 1 t.data.toList).map txt).getD 0 ⟨#[]⟩
def wordsK (k : Nat) (t : ByteArray) : List ByteArray := (cutK (if k = 2 then 2 else 7) t.data.toList).map txt

noncomputable def candA (k : Nat) (ws : List ByteArray) : Art :=
  if k = 1 then { Art.none with kind := 1, year := valI (ws.getD 1 ⟨#[]⟩), number := valI (ws.getD 2 ⟨#[]⟩) }
  else if k = 2 then { Art.none with kind := 2, code := ws.getD 1 ⟨#[]⟩, name := ws.getD 2 ⟨#[]⟩ }
  else if k = 3 ∨ k = 4 ∨ k = 5 then { Art.none with kind := k, code := ws.getD 1 ⟨#[]⟩, year := valI (ws.getD 2 ⟨#[]⟩), amount := valI (ws.getD 3 ⟨#[]⟩) }
  else if k = 6 then { Art.none with kind := 6, other := ws.getD 1 ⟨#[]⟩, code := ws.getD 2 ⟨#[]⟩, percent := valI (ws.getD 3 ⟨#[]⟩) }
  else if k = 7 then { Art.none with kind := 7, code := ws.getD 1 ⟨#[]⟩, year := valI (ws.getD 2 ⟨#[]⟩), amount := valI (ws.getD 3 ⟨#[]⟩), day := dayI' (ws.getD 4 ⟨#[]⟩) }
  else if k = 8 then { Art.none with kind := 8, code := ws.getD 1 ⟨#[]⟩, year := valI (ws.getD 2 ⟨#[]⟩), amount := valI (ws.getD 3 ⟨#[]⟩), other := ws.getD 4 ⟨#[]⟩, least := valI (ws.getD 5 ⟨#[]⟩) }
  else if k = 9 then { Art.none with kind := 9, number := valI (ws.getD 1 ⟨#[]⟩), code := ws.getD 2 ⟨#[]⟩, other := ws.getD 3 ⟨#[]⟩, percent := valI (ws.getD 4 ⟨#[]⟩) }
  else if k = 10 then { Art.none with kind := 10, day := dayI' (ws.getD 1 ⟨#[]⟩), number := valI (ws.getD 2 ⟨#[]⟩), code := ws.getD 4 ⟨#[]⟩, year := valI (ws.getD 5 ⟨#[]⟩), amount := valI (ws.getD 6 ⟨#[]⟩), what := whatTo (ws.getD 3 ⟨#[]⟩) 3 }
  else Art.none

noncomputable def candOf (t : ByteArray) : Art := candA (kindTo (firstW t) 11) (pad8 (wordsK (kindTo (firstW t) 11) t))

theorem cutK_more (j : Nat) : ∀ (m : Nat) (l : List UInt8), (∀ x, (cutK m l).getLast? = some x → (32 : UInt8) ∉ x) → cutK (m + j) l = cutK m l
  | 0, l, h => by rw [cutK_zero, cutK_no _ (h l (by rw [cutK_zero]; rfl))]
  | m + 1, l, h => by
    by_cases hm : (32 : UInt8) ∈ l
    · rcases indexByte_cases l 32 with ⟨_, h2⟩ | ⟨i, _, _, h3, h4⟩
      · exact absurd hm h2
      · have e : l = l.take i ++ 32 :: l.drop (i + 1) := by rw [← h4, List.take_append_drop]
        generalize l.take i = a at *
        generalize l.drop (i + 1) = r at *
        subst e
        rw [cutK_hit _ h3] at h ⊢
        rw [show m + 1 + j = m + j + 1 by omega, cutK_hit _ h3, cutK_more j m r (fun x hx => h x (by
          cases hc : cutK m r with
          | nil => rw [hc] at hx; cases hx
          | cons y t => rw [hc] at hx; rw [List.getLast?_cons_cons]; exact hx))]
    · rw [cutK_no _ hm, cutK_no _ hm]

theorem first_of {t : ByteArray} {n : Nat} {L : List ByteArray} (hn : 1 ≤ n) (h : (cutK n t.data.toList).map txt = L) : firstW t = L.getD 0 ⟨#[]⟩ := by
  obtain ⟨k, rfl⟩ : ∃ k, n = k + 1 := ⟨n - 1, by omega⟩
  have := cutK_head k 0 t.data.toList
  unfold firstW
  rw [← h, List.getD_eq_getElem?_getD, List.getD_eq_getElem?_getD, List.getElem?_map, List.getElem?_map, this]
theorem more_of {t : ByteArray} {n : Nat} {L : List ByteArray} (hn : n ≤ 7) (h : (cutK n t.data.toList).map txt = L) (hl : ∀ x, L.getLast? = some x → (32 : UInt8) ∉ x.data.toList) : (cutK 7 t.data.toList).map txt = L := by
  rw [← h]
  congr 1
  have := cutK_more (7 - n) n t.data.toList (fun x hx => by
    have := hl (txt x) (by rw [← h, List.getLast?_map, hx]; rfl)
    rwa [txt_list] at this)
  rwa [show n + (7 - n) = 7 by omega] at this

theorem valI_itoa {n : Int} (h0 : 0 ≤ n) (h1 : n < 1000000000000000) : valI (itoaT n) = n := by
  unfold valI
  rw [if_neg (fun h => h.elim (itoa_all n) (itoa_none n)), if_pos (by rw [numT_nat h0 h1]; rfl)]
  exact numI_itoa h0 h1
theorem valI_all : valI allT = -1 := by unfold valI; rw [if_pos (Or.inl rfl)]
theorem valI_none : valI noneT = -1 := by unfold valI; rw [if_pos (Or.inr rfl)]
theorem valI_span {n : Int} (h : n = -1 ∨ 0 ≤ n ∧ n ≤ 99) : valI (numOr n allT) = n := by
  unfold numOr
  split
  · rename_i e; rw [e]; exact valI_all
  · exact valI_itoa (by omega) (by omega)
theorem valI_limit {n : Int} (h : n = -1 ∨ 0 ≤ n ∧ n ≤ 1000000000000) : valI (numOr n noneT) = n := by
  unfold numOr
  split
  · rename_i e; rw [e]; exact valI_none
  · exact valI_itoa (by omega) (by omega)

theorem kindTo_kind : ∀ i, i < 11 → 0 < i → kindTo (kindW.getD i ⟨#[]⟩) 11 = i := by decide
set_option maxRecDepth 100000 in
set_option maxHeartbeats 2000000 in
theorem cand_back {a : Art} (h : textA a ≠ ⟨#[]⟩) : candOf (textA a) = a := by
  obtain ⟨f, hf, _, _, _, hok, ht, he⟩ := plain_parts h
  have hcut := cut_write hf hok
  rw [← ht] at hcut
  have hlast : f.kind ≠ 2 → ∀ x, (f.parts.map (wordOf a)).getLast? = some x → (32 : UInt8) ∉ x.data.toList := fun hk x hx => by
    rw [List.getLast?_map] at hx
    cases hp : f.parts.getLast? with
    | none => rw [hp] at hx; cases hx
    | some p =>
      rw [hp] at hx
      cases hx
      have hm : p ∈ f.parts := List.mem_of_getLast? hp
      have hall : (formsL.all fun f => decide (f.kind = 2) || f.parts.all noBlank) = true := by decide
      have h1 := List.all_eq_true.1 hall f hf
      simp only [Bool.or_eq_true, decide_eq_true_eq] at h1
      exact word_blank (hok p hm) (List.all_eq_true.1 (h1.resolve_left hk) p hm)
  clear h ht
  generalize textA a = t at *
  simp only [formsL, List.mem_cons, List.mem_nil_iff, or_false] at hf
  rcases hf with rfl | rfl | rfl | rfl | rfl | rfl | rfl | rfl | rfl | rfl | rfl | rfl
  all_goals
    simp only [litW, List.foldl_cons, List.foldl_nil, setOf, Art.none, List.mem_cons, List.mem_nil_iff, or_false, forall_eq_or_imp, forall_eq, okP, true_and] at hok he
    simp only [litW, List.length_cons, List.length_nil, List.map_cons, List.map_nil, wordOf, Nat.reduceAdd, Nat.reduceSub] at hcut hlast
    have h1 := first_of (by omega) hcut
  · have hk : kindTo (firstW t) 11 = 1 := by rw [h1]; exact kindTo_kind 1 (by omega) (by omega)
    unfold candOf wordsK
    rw [hk]
    rw [if_neg (by decide), more_of (by omega) hcut (hlast (by simp))]
    refine Eq.trans ?_ he
    simp [candA, pad8, Art.none]
    repeat' apply And.intro
    all_goals (first | (with_reducible exact valI_itoa (by omega) (by omega)) | (with_reducible exact valI_span (by omega)) | (with_reducible exact valI_limit (by omega)) | (with_reducible exact dayI_dayT (by omega) (by omega)) | decide)
  · have hk : kindTo (firstW t) 11 = 2 := by rw [h1]; exact kindTo_kind 2 (by omega) (by omega)
    unfold candOf wordsK
    rw [hk]
    rw [if_pos rfl, hcut]
    refine Eq.trans ?_ he
    simp [candA, pad8, Art.none]
  · have hk : kindTo (firstW t) 11 = 3 := by rw [h1]; exact kindTo_kind 3 (by omega) (by omega)
    unfold candOf wordsK
    rw [hk]
    rw [if_neg (by decide), more_of (by omega) hcut (hlast (by simp))]
    refine Eq.trans ?_ he
    simp [candA, pad8, Art.none]
    repeat' apply And.intro
    all_goals (first | (with_reducible exact valI_itoa (by omega) (by omega)) | (with_reducible exact valI_span (by omega)) | (with_reducible exact valI_limit (by omega)) | (with_reducible exact dayI_dayT (by omega) (by omega)) | decide)
  · have hk : kindTo (firstW t) 11 = 4 := by rw [h1]; exact kindTo_kind 4 (by omega) (by omega)
    unfold candOf wordsK
    rw [hk]
    rw [if_neg (by decide), more_of (by omega) hcut (hlast (by simp))]
    refine Eq.trans ?_ he
    simp [candA, pad8, Art.none]
    repeat' apply And.intro
    all_goals (first | (with_reducible exact valI_itoa (by omega) (by omega)) | (with_reducible exact valI_span (by omega)) | (with_reducible exact valI_limit (by omega)) | (with_reducible exact dayI_dayT (by omega) (by omega)) | decide)
  · have hk : kindTo (firstW t) 11 = 5 := by rw [h1]; exact kindTo_kind 5 (by omega) (by omega)
    unfold candOf wordsK
    rw [hk]
    rw [if_neg (by decide), more_of (by omega) hcut (hlast (by simp))]
    refine Eq.trans ?_ he
    simp [candA, pad8, Art.none]
    repeat' apply And.intro
    all_goals (first | (with_reducible exact valI_itoa (by omega) (by omega)) | (with_reducible exact valI_span (by omega)) | (with_reducible exact valI_limit (by omega)) | (with_reducible exact dayI_dayT (by omega) (by omega)) | decide)
  · have hk : kindTo (firstW t) 11 = 6 := by rw [h1]; exact kindTo_kind 6 (by omega) (by omega)
    unfold candOf wordsK
    rw [hk]
    rw [if_neg (by decide), more_of (by omega) hcut (hlast (by simp))]
    refine Eq.trans ?_ he
    simp [candA, pad8, Art.none]
    repeat' apply And.intro
    all_goals (first | (with_reducible exact valI_itoa (by omega) (by omega)) | (with_reducible exact valI_span (by omega)) | (with_reducible exact valI_limit (by omega)) | (with_reducible exact dayI_dayT (by omega) (by omega)) | decide)
  · have hk : kindTo (firstW t) 11 = 7 := by rw [h1]; exact kindTo_kind 7 (by omega) (by omega)
    unfold candOf wordsK
    rw [hk]
    rw [if_neg (by decide), more_of (by omega) hcut (hlast (by simp))]
    refine Eq.trans ?_ he
    simp [candA, pad8, Art.none]
    repeat' apply And.intro
    all_goals (first | (with_reducible exact valI_itoa (by omega) (by omega)) | (with_reducible exact valI_span (by omega)) | (with_reducible exact valI_limit (by omega)) | (with_reducible exact dayI_dayT (by omega) (by omega)) | decide)
  · have hk : kindTo (firstW t) 11 = 8 := by rw [h1]; exact kindTo_kind 8 (by omega) (by omega)
    unfold candOf wordsK
    rw [hk]
    rw [if_neg (by decide), more_of (by omega) hcut (hlast (by simp))]
    refine Eq.trans ?_ he
    simp [candA, pad8, Art.none]
    repeat' apply And.intro
    all_goals (first | (with_reducible exact valI_itoa (by omega) (by omega)) | (with_reducible exact valI_span (by omega)) | (with_reducible exact valI_limit (by omega)) | (with_reducible exact dayI_dayT (by omega) (by omega)) | decide)
  · have hk : kindTo (firstW t) 11 = 9 := by rw [h1]; exact kindTo_kind 9 (by omega) (by omega)
    unfold candOf wordsK
    rw [hk]
    rw [if_neg (by decide), more_of (by omega) hcut (hlast (by simp))]
    refine Eq.trans ?_ he
    simp [candA, pad8, Art.none]
    repeat' apply And.intro
    all_goals (first | (with_reducible exact valI_itoa (by omega) (by omega)) | (with_reducible exact valI_span (by omega)) | (with_reducible exact valI_limit (by omega)) | (with_reducible exact dayI_dayT (by omega) (by omega)) | decide)
  · have hk : kindTo (firstW t) 11 = 10 := by rw [h1]; exact kindTo_kind 10 (by omega) (by omega)
    unfold candOf wordsK
    rw [hk]
    rw [if_neg (by decide), more_of (by omega) hcut (hlast (by simp))]
    refine Eq.trans ?_ he
    simp [candA, pad8, Art.none]
    repeat' apply And.intro
    all_goals (first | (with_reducible exact valI_itoa (by omega) (by omega)) | (with_reducible exact valI_span (by omega)) | (with_reducible exact valI_limit (by omega)) | (with_reducible exact dayI_dayT (by omega) (by omega)) | decide)
  · have hk : kindTo (firstW t) 11 = 10 := by rw [h1]; exact kindTo_kind 10 (by omega) (by omega)
    unfold candOf wordsK
    rw [hk]
    rw [if_neg (by decide), more_of (by omega) hcut (hlast (by simp))]
    refine Eq.trans ?_ he
    simp [candA, pad8, Art.none]
    repeat' apply And.intro
    all_goals (first | (with_reducible exact valI_itoa (by omega) (by omega)) | (with_reducible exact valI_span (by omega)) | (with_reducible exact valI_limit (by omega)) | (with_reducible exact dayI_dayT (by omega) (by omega)) | decide)
  · have hk : kindTo (firstW t) 11 = 10 := by rw [h1]; exact kindTo_kind 10 (by omega) (by omega)
    unfold candOf wordsK
    rw [hk]
    rw [if_neg (by decide), more_of (by omega) hcut (hlast (by simp))]
    refine Eq.trans ?_ he
    simp [candA, pad8, Art.none]
    repeat' apply And.intro
    all_goals (first | (with_reducible exact valI_itoa (by omega) (by omega)) | (with_reducible exact valI_span (by omega)) | (with_reducible exact valI_limit (by omega)) | (with_reducible exact dayI_dayT (by omega) (by omega)) | decide)

end Go.Proofs.YtdgckdmgplpobaaGreatDoor

/- What the article's reference's Parse needs: its worlds, how it ends. -/
namespace Go.Proofs.YtdgckdmgplpobaaGreatDoor
open Go.RowKit Go.Lib Go.Proofs

theorem parse_cand (t : ByteArray) : parseA t = if textA (candOf t) ≠ ⟨#[]⟩ ∧ textA (candOf t) = t then some (candOf t) else none := by
  split
  · rename_i h
    have := text_parse h.1
    rwa [h.2] at this
  · rename_i h
    cases hp : parseA t with
    | none => rfl
    | some b =>
      have h1 := parse_text hp
      have h2 := parse_ne hp
      have h3 := cand_back h2
      rw [h1] at h3
      exact absurd ⟨by rw [h3]; exact h2, by rw [h3]; exact h1⟩ h

theorem wordsK_len (k : Nat) (t : ByteArray) : 1 ≤ (wordsK k t).length ∧ (wordsK k t).length ≤ 8 := by
  unfold wordsK
  rw [List.length_map]
  have h1 := List.length_pos_iff.2 (splitK_ne (if k = 2 then 2 else 7) t.data.toList)
  have h2 := splitK_len (if k = 2 then 2 else 7) t.data.toList
  refine ⟨h1, ?_⟩
  by_cases hk : k = 2
  · rw [if_pos hk] at h2 ⊢; omega
  · rw [if_neg hk] at h2 ⊢; omega

def padTo (l : List ByteArray) (n : Nat) : List ByteArray := l ++ List.replicate n ⟨#[]⟩
theorem padTo_succ (l : List ByteArray) (n : Nat) : padTo l (n + 1) = padTo l n ++ [⟨#[]⟩] := by
  unfold padTo
  rw [List.replicate_succ', List.append_assoc]

theorem kindTo_lt (x : ByteArray) (n : Nat) : kindTo x (n + 1) ≤ n := by
  rw [kindTo_succ]
  split
  · exact Nat.le_refl _
  · exact kindTo_le x n
theorem wordsK_size (k : Nat) (t : ByteArray) {M : Nat} (h : t.size ≤ M) : ∀ x ∈ wordsK k t, x.size ≤ M := by
  intro x hx
  unfold wordsK at hx
  obtain ⟨l, hl, rfl⟩ := List.mem_map.1 hx
  have := splitK_sizes _ _ l hl
  rw [txt_size]
  have h2 := size_list t
  omega
theorem eight {l : List ByteArray} (h : l.length = 8) : ∃ x0 x1 x2 x3 x4 x5 x6 x7, l = [x0, x1, x2, x3, x4, x5, x6, x7] := by
  match l, h with
  | [x0, x1, x2, x3, x4, x5, x6, x7], _ => exact ⟨x0, x1, x2, x3, x4, x5, x6, x7, rfl⟩
def sliceLen : Value → Nat
  | .slice _ n _ => n
  | _ => 0

structure RPInv (w : World) (b : Nat) (a : Art) (W : World) : Prop where
  res : ArtAt W w.heap.size Art.none
  art : ArtAt W b a
  old : Below w.heap.size w W
  far : w.heap.size < b
theorem RPInv.later {w : World} {b : Nat} {a : Art} {A B : World} (h : RPInv w b a A) (hb : Below A.heap.size A B) : RPInv w b a B := ⟨h.res.below hb, h.art.below hb, h.old.trans (hb.mono h.old.size), h.far⟩
theorem RPInv.put {w : World} {b : Nat} {a a' : Art} {A : World} (h : RPInv w b a A) (j : Nat) (v : Value) (he : a.cells.setIfInBounds j v = a'.cells) : RPInv w b a' (A.setCell ⟨b, j, none⟩ v) := by
  have hf := h.far
  refine ⟨(setCell_other _ _ (by omega)).trans h.res, ?_, h.old.setCell (by show w.heap.size ≤ b; omega) _, hf⟩
  have := art_set h.art j v
  rw [he] at this
  exact this

theorem RPInv.grown {w : World} {b : Nat} {a : Art} {A B : World} {row : Option Nat} (h : RPInv w b a A) (hg : A.grownBy B row) (hr : ∀ r, row = some r → b < r) : RPInv w b a B := by
  have hf := h.far
  refine ⟨(hg.block _ h.res.lt (fun e => ?_)).trans h.res, (hg.block _ h.art.lt (fun e => ?_)).trans h.art, h.old.grown hg h.old.size (fun r e => ?_), hf⟩
  · have := hr _ e.symm; omega
  · have := hr _ e.symm; omega
  · have := hr r e; omega

structure KInv (b kb g1 : Nat) (F : ByteArray) (W : World) : Prop where
  kinds : ∀ (j : Nat) (h : j < kindW.length), W.cell? ⟨kb, j, none⟩ = some (.string kindW[j])
  first : W.cell? ⟨g1, 0, none⟩ = some (.string F)
  ne : b ≠ kb ∧ b ≠ g1
theorem KInv.put {b kb g1 : Nat} {F : ByteArray} {W : World} (h : KInv b kb g1 F W) (j : Nat) (v : Value) : KInv b kb g1 F (W.setCell ⟨b, j, none⟩ v) := by
  have hn := h.ne
  refine ⟨fun i hi => ?_, ?_, hn⟩
  · rw [World.cell?_of_block (setCell_other W v (by show kb ≠ b; omega))]; exact h.kinds i hi
  · rw [World.cell?_of_block (setCell_other W v (by show g1 ≠ b; omega))]; exact h.first

theorem kindW_get (j : Nat) (h : j < kindW.length) : kindW.getD j ⟨#[]⟩ = kindW[j] := by
  rw [List.getD_eq_getElem?_getD, List.getElem?_eq_getElem h]; rfl

theorem rp_new {w w1 : World} {g1 : Nat} {F : ByteArray} (hres : ArtAt w1 w.heap.size Art.none) (hold : Below w.heap.size w w1) (hlt : w.heap.size < w1.heap.size) (hg : g1 < w1.heap.size) (hf : ∀ W, Below w1.heap.size w1 W → W.cell? ⟨g1, 0, none⟩ = some (.string F)) :
    RPInv w w1.heap.size Art.none ((w1.alloc (.cells Art.none.cells 24)).alloc (.cells (cellsS kindW).toArray 9)) ∧ KInv w1.heap.size (w1.heap.size + 1) g1 F ((w1.alloc (.cells Art.none.cells 24)).alloc (.cells (cellsS kindW).toArray 9)) := by
  have e1 : (w1.alloc (.cells Art.none.cells 24)).heap.size = w1.heap.size + 1 := by simp
  have hb : Below w1.heap.size w1 ((w1.alloc (.cells Art.none.cells 24)).alloc (.cells (cellsS kindW).toArray 9)) := ((Below.refl _ _).alloc (Nat.le_refl _) _).alloc (by simp) _
  refine ⟨⟨hres.below hb, (Below.heap_alloc _ _ _ (by simp)).trans (heap_alloc_new w1 _), hold.trans (hb.mono hold.size), hlt⟩, fun j hj => ?_, hf _ hb, by omega, by omega⟩
  have := heap_alloc_new (w1.alloc (.cells Art.none.cells 24)) (.cells (cellsS kindW).toArray 9)
  rw [e1] at this
  rw [cell_of_row _ _ _ _ _ _ this]
  simp [cellsS]

theorem RPInv.drew {w : World} {b : Nat} {a : Art} {A : World} (h : RPInv w b a A) : RPInv w b a A.drew := h.later (Below.refl _ _).drew

theorem words_at {w : World} {b : Nat} {a : Art} {wr : World} {g8 : Nat} {x3 : ByteArray} (j : Nat) (lit : ByteArray) (hj : kindW[j]? = some lit) (HI : RPInv w b a wr) (hc3 : wr.cell? ⟨g8, 3, none⟩ = some (.string x3)) (hgl : g8 < wr.heap.size) :
    ∀ W, (W = wr ∨ W = wr.drew) → Calls Tryz.prog 40 #[] W fun e w' => ∃ g, e = .returned (.slice (some ⟨g, 0, none⟩) 11 11) ∧ (RPInv w b a w' ∧ g8 < w'.heap.size) ∧ w'.cell? ⟨g, j, none⟩ = some (.string lit) ∧ w'.cell? ⟨g8, 3, none⟩ = some (.string x3) := by
  intro W hW
  have key : ∀ V : World, RPInv w b a V → V.cell? ⟨g8, 3, none⟩ = some (.string x3) → g8 < V.heap.size → Calls Tryz.prog 40 #[] V fun e w' => ∃ g, e = .returned (.slice (some ⟨g, 0, none⟩) 11 11) ∧ (RPInv w b a w' ∧ g8 < w'.heap.size) ∧ w'.cell? ⟨g, j, none⟩ = some (.string lit) ∧ w'.cell? ⟨g8, 3, none⟩ = some (.string x3) := fun V h1 h2 h3 =>
    (rarWords_any V).mono fun e w' h => ⟨V.heap.size, h.1, ⟨by rw [h.2]; exact h1.later (below_alloc _ _), by rw [h.2]; simp; omega⟩, by rw [h.2, cell_of_row _ _ _ _ _ _ (heap_alloc_new V _)]; simp [cellsS, hj], by rw [h.2, (below_alloc V _).cell (p := ⟨g8, 3, none⟩) h3]; exact h2⟩
  rcases hW with rfl | rfl
  · exact key _ HI hc3 hgl
  · exact key _ HI.drew hc3 hgl

set_option maxRecDepth 100000 in
set_option maxHeartbeats 1000000 in
theorem rp_end {w : World} {b : Nat} {a : Art} {r : Option Art} (kd : Int) (cd ot nm : ByteArray) (yr am pc nu dy ls wh : Int) (q : Int) {A : World} (h : RPInv w b a A) (hp : (r = some ⟨kd, cd, ot, nm, yr, am, pc, nu, dy, ls, wh⟩ ∧ q = 0) ∨ (r = none ∧ (⟨kd, cd, ot, nm, yr, am, pc, nu, dy, ls, wh⟩ : Art) = Art.none ∧ q = 4)) {fr : Act} (hfr : fr.tmps[2]? = some (.pointer (some ⟨w.heap.size, 0, none⟩))) (hq : fr.tmps[3]? = some (.int .i64 q)) (hdf : fr.defers = []) :
    bodyPost Tryz.prog Tryz.f19 (ParseP w r) Exit.ret fr (((((((((((A.setCell ⟨w.heap.size, 0, none⟩ (.int .i64 kd)).setCell ⟨w.heap.size, 1, none⟩ (.string cd)).setCell ⟨w.heap.size, 2, none⟩ (.string ot)).setCell ⟨w.heap.size, 3, none⟩ (.string nm)).setCell ⟨w.heap.size, 4, none⟩ (.int .i64 yr)).setCell ⟨w.heap.size, 5, none⟩ (.int .i64 am)).setCell ⟨w.heap.size, 6, none⟩ (.int .i64 pc)).setCell ⟨w.heap.size, 7, none⟩ (.int .i64 nu)).setCell ⟨w.heap.size, 8, none⟩ (.int .i64 dy)).setCell ⟨w.heap.size, 9, none⟩ (.int .i64 ls)).setCell ⟨w.heap.size, 10, none⟩ (.int .i64 wh)) := by
  have hF := putArt_at h.res kd cd ot nm yr am pc nu dy ls wh
  have hbel := putArt_below kd cd ot nm yr am pc nu dy ls wh h.old (Nat.le_refl _)
  show bodyPost Tryz.prog Tryz.f19 (ParseP w r) Exit.ret fr (putArt A w.heap.size kd cd ot nm yr am pc nu dy ls wh)
  generalize putArt A w.heap.size kd cd ot nm yr am pc nu dy ls wh = F at hF hbel ⊢
  have q0 := art_cell hF 0
  have q1 := art_cell hF 1
  have q2 := art_cell hF 2
  have q3 := art_cell hF 3
  have q4 := art_cell hF 4
  have q5 := art_cell hF 5
  have q6 := art_cell hF 6
  have q7 := art_cell hF 7
  have q8 := art_cell hF 8
  have q9 := art_cell hF 9
  have q10 := art_cell hF 10
  simp only [Art.cells] at q0 q1 q2 q3 q4 q5 q6 q7 q8 q9 q10
  refine bodyPost_ret (v := .tuple #[.agg #[.int .i64 kd, .string cd, .string ot, .string nm, .int .i64 yr, .int .i64 am, .int .i64 pc, .int .i64 nu, .int .i64 dy, .int .i64 ls, .int .i64 wh], .int .i64 q]) (by simp [results, Tryz.results19, go_sem, hfr, hq, q0, q1, q2, q3, q4, q5, q6, q7, q8, q9, q10]) hdf ⟨?_, hbel⟩
  rcases hp with ⟨rfl, rfl⟩ | ⟨rfl, he, rfl⟩
  · rfl
  · show _ = Ending.returned (.tuple #[.agg Art.none.cells, .int .i64 4])
    rw [← he]
    rfl


end Go.Proofs.YtdgckdmgplpobaaGreatDoor
