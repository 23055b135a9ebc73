/- The walk of ArticleFields: a field that the kind does not use makes an article bent; for every list of numbers. -/
import Derived.Test.YtkfjjmfajeianaaGreatDoorFArtOW
import Derived.Deep.CutBlock
namespace Go.Proofs.YtkfjjmfajeianaaGreatDoor
open Go.RowKit Go.Lib Go.Proofs

def notPercent : Fd → Bool
  | .percent => false
  | _ => true
def notAmount : Fd → Bool
  | .amount => false
  | .limit => false
  | _ => true
set_option maxRecDepth 100000 in
theorem forms_fields : (formsL.all fun f => if f.kind = 2 ∨ f.kind = 6 ∨ f.kind = 9 then f.parts.all notAmount else f.parts.all notPercent) = true := by decide

theorem fields_bent {a : Art} (h : textA a ≠ ⟨#[]⟩) (r : Int) (hr : 0 ≤ r) :
    ((a.kind = 2 ∨ a.kind = 6 ∨ a.kind = 9) → textA { a with amount := 1 + r } = ⟨#[]⟩) ∧ (¬ (a.kind = 2 ∨ a.kind = 6 ∨ a.kind = 9) → textA { a with percent := 1 + r } = ⟨#[]⟩) := by
  obtain ⟨f, hf, hfo, hk, hw, _⟩ := plain_parts h
  have hd := List.all_eq_true.1 forms_fields f hf
  constructor
  · intro hc
    rw [hk] at hc
    rw [if_pos hc] at hd
    have hn := List.all_eq_true.1 hd
    refine bent_amount (f := f) hfo (fun hm => ?_) (fun hm => ?_) (by show 1 + r ≠ 0; omega)
    · have := hn _ hm; simp [notAmount] at this
    · have := hn _ hm; simp [notAmount] at this
  · intro hc
    rw [hk] at hc
    rw [if_neg hc] at hd
    have hn := List.all_eq_true.1 hd
    refine bent_percent (f := f) hfo (fun hm => ?_) (by show 1 + r ≠ 0; omega)
    have := hn _ hm; simp [notPercent] at this

theorem bent_fit {a x : Art} (h : textA a ≠ ⟨#[]⟩) (he : { x with percent := a.percent, amount := a.amount } = a) (p0 : 0 ≤ x.percent) (p1 : x.percent ≤ 1000000000000) (m0 : -1 ≤ x.amount) (m1 : x.amount ≤ 1000000000000) : ArtFit x := by
  have hb := plain_bd h
  have := hb
  obtain ⟨k0, k1, w0, w1, y0, y1, a0, a1, q0, q1, n0, n1, d0, d1, l0, l1, c, o, n⟩ := this
  have e1 := congrArg Art.year he
  have e2 := congrArg Art.number he
  have e3 := congrArg Art.least he
  have e4 := congrArg Art.code he
  have e5 := congrArg Art.other he
  have e6 := congrArg Art.name he
  simp only at e1 e2 e3 e4 e5 e6
  refine art_fit x ?_ (by rw [e4]; omega) (by rw [e5]; omega) (by rw [e6]; omega)
  constructor <;> omega

/-- Two articles in two places. -/
structure PairAt (w : World) (p q : Nat) (a x : Art) (W : World) : Prop where
  a : ArtAt W p a
  x : ArtAt W q x
  old : Below w.heap.size w W
  far : w.heap.size < p ∧ p < q
  tape : TapeAt W w.heap.size
theorem PairAt.turn {w : World} {p q : Nat} {a x : Art} {A B : World} (h : PairAt w p q a x A) (ht : TapeAt B w.heap.size) (hg : A.grownBy B (some w.heap.size)) : PairAt w p q a x B := by
  have hf := h.far
  exact ⟨(hg.block p h.a.lt (fun e => by injection e; omega)).trans h.a, (hg.block q h.x.lt (fun e => by injection e; omega)).trans h.x, below_turn h.old hg (Nat.le_refl _), hf, ht⟩
theorem PairAt.put {w : World} {p q : Nat} {a x x' : Art} {A : World} (h : PairAt w p q a x A) (j : Nat) (v : Value) (he : x.cells.setIfInBounds j v = x'.cells) : PairAt w p q a x' (A.setCell ⟨q, j, none⟩ v) := by
  have hf := h.far
  refine ⟨(setCell_other _ _ (by omega)).trans h.a, ?_, h.old.setCell (by show w.heap.size ≤ q; omega) _, hf, h.tape.keep fun k hk => setCell_other _ _ (by omega)⟩
  have := art_set h.x j v
  rw [he] at this
  exact this

/-- Three articles in three places. -/
structure ThreeAt (w : World) (p q r : Nat) (a x y : Art) (W : World) : Prop where
  a : ArtAt W p a
  x : ArtAt W q x
  y : ArtAt W r y
  old : Below w.heap.size w W
theorem ThreeAt.later {w : World} {p q r : Nat} {a x y : Art} {A B : World} (h : ThreeAt w p q r a x y A) (hb : Below A.heap.size A B) : ThreeAt w p q r a x y B := ⟨h.a.below hb, h.x.below hb, h.y.below hb, h.old.trans (hb.mono h.old.size)⟩
theorem ThreeAt.drew {w : World} {p q r : Nat} {a x y : Art} {A : World} (h : ThreeAt w p q r a x y A) : ThreeAt w p q r a x y A.drew := ⟨h.a, h.x, h.y, h.old.drew⟩
theorem ThreeAt.new {w : World} {p q : Nat} {a x y : Art} {A : World} (h : PairAt w p q a x A) : ThreeAt w p q A.heap.size a x y (A.alloc (.cells y.cells 24)) :=
  ⟨h.a.below (below_alloc _ _), h.x.below (below_alloc _ _), heap_alloc_new A _, h.old.alloc h.old.size _⟩

set_option maxRecDepth 100000 in
set_option maxHeartbeats 8000000 in
theorem lawArtFields_any (v : Value) (n : Nat) (w : World) (hi : IntsAt w v n w.heap.size) (hn : n ≤ 9223372036854775807) (hL : Lay w) :
    Calls Tryz.prog 6 #[v] w fun e w' => e = .returned (.bool true) ∧ Below w.heap.size w w' := by
  have HNEW := Lib.hid (New_any v n w hi hn)
  clear hi hn
  go_enter Tryz.func6, Tryz.ntmps6
  go_wp2_with fail
  refine (HNEW.out).mono ?_
  rintro e w1 ⟨rfl, t1, b1⟩
  have HT := Lib.hid (Tree_any w.heap.size 6 w1 t1 (by omega))
  have hw1 : w.heap.size < w1.heap.size := t1.lt
  have B1 := Lib.hid b1
  have HL := Lib.hid hL
  clear t1 b1 HNEW hL
  go_wp2_with fail
  refine (HT.out).mono ?_
  rintro e w2 ⟨l, ls, hs, rfl, t2, o2, htree, g2⟩
  obtain ⟨g, cap, cs, rfl, hcap, hg1, hglt, hheads, hcodes⟩ := heads_at (tb := w.heap.size) o2 htree (by omega)
  have hlen : 1 ≤ hs.length ∧ hs.length ≤ 1000 := by
    have hl : hs.length = ls.length := by
      have := congrArg List.length htree.codes
      rwa [List.length_map, texts_len] at this
    have := htree.pos
    have := htree.len
    omega
  have hb2 : Below w.heap.size w w2 := below_turn B1.out g2 (Nat.le_refl _)
  obtain ⟨m, hm⟩ : ∃ m, m = hs.length := ⟨_, rfl⟩
  rw [← hm] at hcap hheads hcodes hlen ⊢
  have HMK := Lib.hid (mkArticle_any w.heap.size g m cap cs 12 3 w2 t2 hheads hglt hlen hcap hcodes (by omega) (by omega) (by omega))
  have HB2 := Lib.hid hb2
  have hw2 : w.heap.size < w2.heap.size := t2.lt
  clear hm o2 htree g2 hb2 hheads t2 HT B1 hcodes hlen hcap hg1
  go_wp2_with fail
  refine (HMK.out).mono ?_
  rintro e w3 ⟨a, rfl, pa, t3, g3⟩
  have hb3 := below_turn HB2.out g3 (Nat.le_refl _)
  have hw3 : w.heap.size < w3.heap.size := t3.lt
  have hp0 : PairAt w w3.heap.size (w3.heap.size + 1) a a ((w3.alloc (.cells a.cells 24)).alloc (.cells a.cells 24)) := by
    have e1 : (w3.alloc (.cells a.cells 24)).heap.size = w3.heap.size + 1 := by simp
    refine ⟨?_, ?_, (hb3.alloc hb3.size _).alloc (by simp; omega) _, by omega, ?_⟩
    · exact (Below.heap_alloc _ _ _ (by simp)).trans (heap_alloc_new w3 _)
    · have := heap_alloc_new (w3.alloc (.cells a.cells 24)) (.cells a.cells 24)
      rwa [e1] at this
    · exact (t3.below (below_alloc _ _)).below (below_alloc _ _)
  have HP0 := Lib.hid hp0
  have hbd := plain_bd pa
  have k0 := hbd.k0
  have k1 := hbd.k1
  have b5a := hbd.a0
  have b5b := hbd.a1
  have b6a := hbd.p0
  have b6b := hbd.p1
  have HF := Lib.hid (fields_bent pa)
  have HPA := Lib.hid pa
  clear hb3 hp0 t3 g3 HB2 HMK pa hbd
  obtain ⟨ka, a1, a2, a3, a4, a5, a6, a7, a8, a9, a10⟩ := a
  simp only [Art.cells] at k0 k1 b5a b5b b6a b6b ⊢
  have hp := HP0.out
  simp only [Art.cells] at hp
  have HP := Lib.hid hp
  have u0 := art_cell hp.a 0
  simp only [Art.cells] at u0
  clear HP0 hp
  go_upto_block 0 with fail
  go_cut [] (fun wx => ∃ x : Art, (textA x = ⟨#[]⟩ ∧ ArtFit x) ∧ { x with percent := a6, amount := a5 } = (⟨ka, a1, a2, a3, a4, a5, a6, a7, a8, a9, a10⟩ : Art) ∧ PairAt w w3.heap.size (w3.heap.size + 1) ⟨ka, a1, a2, a3, a4, a5, a6, a7, a8, a9, a10⟩ x wx)
  case first =>
    rcases (by omega : ka = 1 ∨ ka = 2 ∨ ka = 3 ∨ ka = 4 ∨ ka = 5 ∨ ka = 6 ∨ ka = 7 ∨ ka = 8 ∨ ka = 9 ∨ ka = 10) with rfl | rfl | rfl | rfl | rfl | rfl | rfl | rfl | rfl | rfl
    · go_wp2_with fail
      refine (N_any w.heap.size 100 _ HP.out.tape (by omega) (by omega)).mono ?_
      rintro e w4 ⟨r, rfl, r0, r1, t4, g4⟩
      have HP4 := Lib.hid (HP.out.turn t4 g4)
      have f5 := art_free HP4.out.x 6
      have c5 := art_cell HP4.out.x 6
      simp only [Art.cells] at c5
      have hbent := (HF.out r r0).2 (by simp)
      clear t4 g4 HP
      go_wp2_with fail
      go_meet
      exact ⟨⟨1, a1, a2, a3, a4, a5, 1 + r, a7, a8, a9, a10⟩, ⟨hbent, bent_fit HPA.out rfl (by simp only; omega) (by simp only; omega) (by simp only; omega) (by simp only; omega)⟩, rfl, HP4.out.put (x' := ⟨1, a1, a2, a3, a4, a5, 1 + r, a7, a8, a9, a10⟩) 6 (.int .i64 (1 + r)) rfl⟩
    · go_wp2_with fail
      refine (N_any w.heap.size 100 _ HP.out.tape (by omega) (by omega)).mono ?_
      rintro e w4 ⟨r, rfl, r0, r1, t4, g4⟩
      have HP4 := Lib.hid (HP.out.turn t4 g4)
      have f5 := art_free HP4.out.x 5
      have c5 := art_cell HP4.out.x 5
      simp only [Art.cells] at c5
      have hbent := (HF.out r r0).1 (by simp)
      clear t4 g4 HP
      go_wp2_with fail
      go_meet
      exact ⟨⟨2, a1, a2, a3, a4, 1 + r, a6, a7, a8, a9, a10⟩, ⟨hbent, bent_fit HPA.out rfl (by simp only; omega) (by simp only; omega) (by simp only; omega) (by simp only; omega)⟩, rfl, HP4.out.put (x' := ⟨2, a1, a2, a3, a4, 1 + r, a6, a7, a8, a9, a10⟩) 5 (.int .i64 (1 + r)) rfl⟩
    · go_wp2_with fail
      refine (N_any w.heap.size 100 _ HP.out.tape (by omega) (by omega)).mono ?_
      rintro e w4 ⟨r, rfl, r0, r1, t4, g4⟩
      have HP4 := Lib.hid (HP.out.turn t4 g4)
      have f5 := art_free HP4.out.x 6
      have c5 := art_cell HP4.out.x 6
      simp only [Art.cells] at c5
      have hbent := (HF.out r r0).2 (by simp)
      clear t4 g4 HP
      go_wp2_with fail
      go_meet
      exact ⟨⟨3, a1, a2, a3, a4, a5, 1 + r, a7, a8, a9, a10⟩, ⟨hbent, bent_fit HPA.out rfl (by simp only; omega) (by simp only; omega) (by simp only; omega) (by simp only; omega)⟩, rfl, HP4.out.put (x' := ⟨3, a1, a2, a3, a4, a5, 1 + r, a7, a8, a9, a10⟩) 6 (.int .i64 (1 + r)) rfl⟩
    · go_wp2_with fail
      refine (N_any w.heap.size 100 _ HP.out.tape (by omega) (by omega)).mono ?_
      rintro e w4 ⟨r, rfl, r0, r1, t4, g4⟩
      have HP4 := Lib.hid (HP.out.turn t4 g4)
      have f5 := art_free HP4.out.x 6
      have c5 := art_cell HP4.out.x 6
      simp only [Art.cells] at c5
      have hbent := (HF.out r r0).2 (by simp)
      clear t4 g4 HP
      go_wp2_with fail
      go_meet
      exact ⟨⟨4, a1, a2, a3, a4, a5, 1 + r, a7, a8, a9, a10⟩, ⟨hbent, bent_fit HPA.out rfl (by simp only; omega) (by simp only; omega) (by simp only; omega) (by simp only; omega)⟩, rfl, HP4.out.put (x' := ⟨4, a1, a2, a3, a4, a5, 1 + r, a7, a8, a9, a10⟩) 6 (.int .i64 (1 + r)) rfl⟩
    · go_wp2_with fail
      refine (N_any w.heap.size 100 _ HP.out.tape (by omega) (by omega)).mono ?_
      rintro e w4 ⟨r, rfl, r0, r1, t4, g4⟩
      have HP4 := Lib.hid (HP.out.turn t4 g4)
      have f5 := art_free HP4.out.x 6
      have c5 := art_cell HP4.out.x 6
      simp only [Art.cells] at c5
      have hbent := (HF.out r r0).2 (by simp)
      clear t4 g4 HP
      go_wp2_with fail
      go_meet
      exact ⟨⟨5, a1, a2, a3, a4, a5, 1 + r, a7, a8, a9, a10⟩, ⟨hbent, bent_fit HPA.out rfl (by simp only; omega) (by simp only; omega) (by simp only; omega) (by simp only; omega)⟩, rfl, HP4.out.put (x' := ⟨5, a1, a2, a3, a4, a5, 1 + r, a7, a8, a9, a10⟩) 6 (.int .i64 (1 + r)) rfl⟩
    · go_wp2_with fail
      refine (N_any w.heap.size 100 _ HP.out.tape (by omega) (by omega)).mono ?_
      rintro e w4 ⟨r, rfl, r0, r1, t4, g4⟩
      have HP4 := Lib.hid (HP.out.turn t4 g4)
      have f5 := art_free HP4.out.x 5
      have c5 := art_cell HP4.out.x 5
      simp only [Art.cells] at c5
      have hbent := (HF.out r r0).1 (by simp)
      clear t4 g4 HP
      go_wp2_with fail
      go_meet
      exact ⟨⟨6, a1, a2, a3, a4, 1 + r, a6, a7, a8, a9, a10⟩, ⟨hbent, bent_fit HPA.out rfl (by simp only; omega) (by simp only; omega) (by simp only; omega) (by simp only; omega)⟩, rfl, HP4.out.put (x' := ⟨6, a1, a2, a3, a4, 1 + r, a6, a7, a8, a9, a10⟩) 5 (.int .i64 (1 + r)) rfl⟩
    · go_wp2_with fail
      refine (N_any w.heap.size 100 _ HP.out.tape (by omega) (by omega)).mono ?_
      rintro e w4 ⟨r, rfl, r0, r1, t4, g4⟩
      have HP4 := Lib.hid (HP.out.turn t4 g4)
      have f5 := art_free HP4.out.x 6
      have c5 := art_cell HP4.out.x 6
      simp only [Art.cells] at c5
      have hbent := (HF.out r r0).2 (by simp)
      clear t4 g4 HP
      go_wp2_with fail
      go_meet
      exact ⟨⟨7, a1, a2, a3, a4, a5, 1 + r, a7, a8, a9, a10⟩, ⟨hbent, bent_fit HPA.out rfl (by simp only; omega) (by simp only; omega) (by simp only; omega) (by simp only; omega)⟩, rfl, HP4.out.put (x' := ⟨7, a1, a2, a3, a4, a5, 1 + r, a7, a8, a9, a10⟩) 6 (.int .i64 (1 + r)) rfl⟩
    · go_wp2_with fail
      refine (N_any w.heap.size 100 _ HP.out.tape (by omega) (by omega)).mono ?_
      rintro e w4 ⟨r, rfl, r0, r1, t4, g4⟩
      have HP4 := Lib.hid (HP.out.turn t4 g4)
      have f5 := art_free HP4.out.x 6
      have c5 := art_cell HP4.out.x 6
      simp only [Art.cells] at c5
      have hbent := (HF.out r r0).2 (by simp)
      clear t4 g4 HP
      go_wp2_with fail
      go_meet
      exact ⟨⟨8, a1, a2, a3, a4, a5, 1 + r, a7, a8, a9, a10⟩, ⟨hbent, bent_fit HPA.out rfl (by simp only; omega) (by simp only; omega) (by simp only; omega) (by simp only; omega)⟩, rfl, HP4.out.put (x' := ⟨8, a1, a2, a3, a4, a5, 1 + r, a7, a8, a9, a10⟩) 6 (.int .i64 (1 + r)) rfl⟩
    · go_wp2_with fail
      refine (N_any w.heap.size 100 _ HP.out.tape (by omega) (by omega)).mono ?_
      rintro e w4 ⟨r, rfl, r0, r1, t4, g4⟩
      have HP4 := Lib.hid (HP.out.turn t4 g4)
      have f5 := art_free HP4.out.x 5
      have c5 := art_cell HP4.out.x 5
      simp only [Art.cells] at c5
      have hbent := (HF.out r r0).1 (by simp)
      clear t4 g4 HP
      go_wp2_with fail
      go_meet
      exact ⟨⟨9, a1, a2, a3, a4, 1 + r, a6, a7, a8, a9, a10⟩, ⟨hbent, bent_fit HPA.out rfl (by simp only; omega) (by simp only; omega) (by simp only; omega) (by simp only; omega)⟩, rfl, HP4.out.put (x' := ⟨9, a1, a2, a3, a4, 1 + r, a6, a7, a8, a9, a10⟩) 5 (.int .i64 (1 + r)) rfl⟩
    · go_wp2_with fail
      refine (N_any w.heap.size 100 _ HP.out.tape (by omega) (by omega)).mono ?_
      rintro e w4 ⟨r, rfl, r0, r1, t4, g4⟩
      have HP4 := Lib.hid (HP.out.turn t4 g4)
      have f5 := art_free HP4.out.x 6
      have c5 := art_cell HP4.out.x 6
      simp only [Art.cells] at c5
      have hbent := (HF.out r r0).2 (by simp)
      clear t4 g4 HP
      go_wp2_with fail
      go_meet
      exact ⟨⟨10, a1, a2, a3, a4, a5, 1 + r, a7, a8, a9, a10⟩, ⟨hbent, bent_fit HPA.out rfl (by simp only; omega) (by simp only; omega) (by simp only; omega) (by simp only; omega)⟩, rfl, HP4.out.put (x' := ⟨10, a1, a2, a3, a4, a5, 1 + r, a7, a8, a9, a10⟩) 6 (.int .i64 (1 + r)) rfl⟩
  case rest =>
    obtain ⟨wd, hwd⟩ : ∃ wd, wd = wc := ⟨_, rfl⟩
    subst hwd
    obtain ⟨x, ⟨hx, hfit⟩, he, hP⟩ := hcut
    obtain ⟨x0, x1, x2, x3, x4, x5, x6, x7, x8, x9, x10⟩ := x
    simp only [Art.mk.injEq] at he
    obtain ⟨rfl, rfl, rfl, rfl, rfl, _, _, rfl, rfl, rfl, rfl⟩ := he
    have HP := Lib.hid hP
    have u := art_cell hP.x
    have v5 := art_cell hP.a 5
    have v6 := art_cell hP.a 6
    have hlt := hP.a.lt
    have hlt2 := hP.x.lt
    simp only [Art.cells] at u v5 v6
    clear hP
    have hn := ThreeAt.new (y := ⟨x0, x1, x2, x3, x4, a5, a6, x7, x8, x9, x10⟩) HP.out
    go_upto_region 15 with fail
    go_cut [] (fun wx => ThreeAt w w3.heap.size (w3.heap.size + 1) wd.heap.size ⟨x0, x1, x2, x3, x4, a5, a6, x7, x8, x9, x10⟩ ⟨x0, x1, x2, x3, x4, x5, x6, x7, x8, x9, x10⟩ ⟨x0, x1, x2, x3, x4, a5, a6, x7, x8, x9, x10⟩ wx)
    case first =>
      go_region
      all_goals (go_wp2_with fail)
      all_goals go_meet
      all_goals (first | exact hn | exact hn.drew)
    case rest =>
      obtain ⟨I, hI⟩ : ∃ I, I = ThreeAt w w3.heap.size (w3.heap.size + 1) wd.heap.size ⟨x0, x1, x2, x3, x4, a5, a6, x7, x8, x9, x10⟩ ⟨x0, x1, x2, x3, x4, x5, x6, x7, x8, x9, x10⟩ ⟨x0, x1, x2, x3, x4, a5, a6, x7, x8, x9, x10⟩ := ⟨_, rfl⟩
      have hlater : ∀ A B, I A → Below A.heap.size A B → I B := by rw [hI]; exact fun A B h hb => h.later hb
      have hold : ∀ A, I A → Below w.heap.size w A := by rw [hI]; exact fun A h => h.old
      have hdrew : ∀ A, I A → I A.drew := by rw [hI]; exact fun A h => h.drew
      have hcells : ∀ A, I A → (∀ j, A.cell? ⟨w3.heap.size, j, none⟩ = #[.int .i64 x0, .string x1, .string x2, .string x3, .int .i64 x4, .int .i64 a5, .int .i64 a6, .int .i64 x7, .int .i64 x8, .int .i64 x9, .int .i64 x10][j]?) ∧ (∀ j, A.cell? ⟨w3.heap.size + 1, j, none⟩ = #[.int .i64 x0, .string x1, .string x2, .string x3, .int .i64 x4, .int .i64 x5, .int .i64 x6, .int .i64 x7, .int .i64 x8, .int .i64 x9, .int .i64 x10][j]?) ∧ (∀ j, A.cell? ⟨wd.heap.size, j, none⟩ = #[.int .i64 x0, .string x1, .string x2, .string x3, .int .i64 x4, .int .i64 a5, .int .i64 a6, .int .i64 x7, .int .i64 x8, .int .i64 x9, .int .i64 x10][j]?) := by rw [hI]; exact fun A h => ⟨fun j => art_cell h.a j, fun j => art_cell h.x j, fun j => art_cell h.y j⟩
      have hnew : I wc := by rw [hI]; exact hcut
      clear hI hcut hn u v5 v6
      have hlay : ∀ W, I W → Lay W := fun W hW => HL.out.below (hold W hW) (Nat.le_refl _)
      have hxz : textA ⟨x0, x1, x2, x3, x4, x5, x6, x7, x8, x9, x10⟩ = ⟨#[]⟩ := hx
      have fx : ArtFit ⟨x0, x1, x2, x3, x4, x5, x6, x7, x8, x9, x10⟩ := hfit
      have fa := (plain_bd HPA.out).fit
      have cpx := fun W (hW : I W) => (plain_any x0 x1 x2 x3 x4 x5 x6 x7 x8 x9 x10 W (hlay W hW) fx).mono fun e w' h => (show _ ∧ I w' from ⟨h.1, hlater _ _ hW h.2⟩)
      have cpa := fun W (hW : I W) => (plain_any x0 x1 x2 x3 x4 a5 a6 x7 x8 x9 x10 W (hlay W hW) fa).mono fun e w' h => (show _ ∧ I w' from ⟨h.1, hlater _ _ hW h.2⟩)
      have ctx := fun W (hW : I W) => (text_fit x0 x1 x2 x3 x4 x5 x6 x7 x8 x9 x10 W (hlay W hW) fx).mono fun e w' h => (show _ ∧ I w' from ⟨h.1, hlater _ _ hW h.2⟩)
      have cta := fun W (hW : I W) => (text_fit x0 x1 x2 x3 x4 a5 a6 x7 x8 x9 x10 W (hlay W hW) fa).mono fun e w' h => (show _ ∧ I w' from ⟨h.1, hlater _ _ hW h.2⟩)
      have caw := fun W (hW : I W) => (awake04_any W (hlay W hW)).mono fun e w' (h : e = .returned (.bool true) ∧ Below W.heap.size W w') => (show e = .returned (.bool true) ∧ I w' from ⟨h.1, hlater _ _ hW h.2⟩)
      have hta := strEq_false HPA.out
      rw [hxz] at cpx ctx
      generalize textA ⟨x0, x1, x2, x3, x4, a5, a6, x7, x8, x9, x10⟩ = t at *
      have hb1 : (!(t.toList == (⟨#[]⟩ : ByteArray).toList)) = true := by rw [hta]; rfl
      have hb2 : (!((⟨#[]⟩ : ByteArray).toList == (⟨#[]⟩ : ByteArray).toList)) = false := by simp
      simp only [hb1] at cpa
      simp only [hb2] at cpx
      have Hpx := Lib.hid cpx
      have Hpa := Lib.hid cpa
      have Htx := Lib.hid ctx
      have Hta := Lib.hid cta
      have Haw := Lib.hid caw
      have HCE := Lib.hid hcells
      have HDR := Lib.hid hdrew
      have HOL := Lib.hid hold
      have hxx : ((⟨#[]⟩ : ByteArray).toList == (⟨#[]⟩ : ByteArray).toList) = true := by simp
      have htt : (t.toList == t.toList) = true := by simp
      clear cpx cpa ctx cta caw hcells hdrew hold hlater hlay hxz fx fa hb1 hb2 hx
      go_upto_region 16 with fail
      go_region_held3 (fun W => (∀ j, W.cell? ⟨w3.heap.size, j, none⟩ = #[.int .i64 x0, .string x1, .string x2, .string x3, .int .i64 x4, .int .i64 a5, .int .i64 a6, .int .i64 x7, .int .i64 x8, .int .i64 x9, .int .i64 x10][j]?) ∧ (∀ j, W.cell? ⟨w3.heap.size + 1, j, none⟩ = #[.int .i64 x0, .string x1, .string x2, .string x3, .int .i64 x4, .int .i64 x5, .int .i64 x6, .int .i64 x7, .int .i64 x8, .int .i64 x9, .int .i64 x10][j]?) ∧ (∀ j, W.cell? ⟨wd.heap.size, j, none⟩ = #[.int .i64 x0, .string x1, .string x2, .string x3, .int .i64 x4, .int .i64 a5, .int .i64 a6, .int .i64 x7, .int .i64 x8, .int .i64 x9, .int .i64 x10][j]?))
        (first | exact HCE.out _ (by assumption) | exact HCE.out _ (HDR.out _ (by assumption)))
        (first
          | (go_at_call 13; (first | (with_reducible refine (Hpx.out _ (by first | assumption | exact HDR.out _ (by assumption))).mono ?_) | (with_reducible refine (Hpa.out _ (by first | assumption | exact HDR.out _ (by assumption))).mono ?_)); rintro e w' ⟨rfl, hinv⟩)
          | (go_at_call 15; (first | (with_reducible refine (Htx.out _ (by first | assumption | exact HDR.out _ (by assumption))).mono ?_) | (with_reducible refine (Hta.out _ (by first | assumption | exact HDR.out _ (by assumption))).mono ?_)); rintro e w' ⟨rfl, hinv⟩)
          | (go_at_call 8; (with_reducible refine (Haw.out _ (by first | assumption | exact HDR.out _ (by assumption))).mono ?_); rintro e w' ⟨rfl, hinv⟩))
      have hfin := HOL.out w' (by assumption)
      go_wp2_with fail
      go_ret
      exact ⟨rfl, hfin⟩

end Go.Proofs.YtkfjjmfajeianaaGreatDoor
