/- Texts of one claim, merged: ArtNM, RtxM, Rart, RartB. -/
import Derived.Test.YtdgckdmgplpobaaGreatDoorMBentA
import Derived.Test.YtdgckdmgplpobaaGreatDoorMG3
import Derived.Test.YtdgckdmgplpobaaGreatDoorMG5
import Derived.Test.YtdgckdmgplpobaaGreatDoorMSpoilt
/- What ArticleAnswers needs of articles and worlds: texts of plain articles are small; articles in a row; texts in a row; of no function of the program. -/
set_option linter.unusedSimpArgs false
set_option linter.unusedVariables false
namespace Go.Proofs.YtdgckdmgplpobaaGreatDoor
open Go.RowKit Go.Lib Go.Proofs

theorem dayT_100 (d : Int) : (dayT d).size ≤ 100 := by
  unfold dayT
  split
  · next h =>
    have := dayB_true.1 h
    rw [size_eq, dayText_list]
    have := digits_len (u := d.toNat / 360) (by omega)
    simp [twoL]
    omega
  · exact Nat.zero_le _

theorem plain_small {a : Art} (h : textA a ≠ ⟨#[]⟩) : SmA a := by
  have hb := plain_bd h
  exact ⟨hb.fit.bd, by have := hb.c; omega, by have := hb.o; omega, by have := hb.n; omega⟩

theorem small_word (a : Art) (hs : SmA a) (f : Form) (hf : f ∈ formsL) (p : Fd) (hp : p ∈ f.parts) : (wordOf a p).size ≤ 100 := by
  have hb := hs.bd
  have hlit := List.all_eq_true.1 (lits_small f hf) p hp
  have i1 := itoaT_size a.year hb.y0 hb.y1
  have i2 := itoaT_size a.amount hb.a0 hb.a1
  have i3 := itoaT_size a.percent hb.p0 hb.p1
  have i4 := itoaT_size a.number hb.n0 hb.n1
  have i5 := itoaT_size a.least hb.l0 hb.l1
  have hn : ∀ n w, (itoaT n).size ≤ 21 → w.size ≤ 10 → (numOr n w).size ≤ 100 := fun n w h h' => by
    unfold numOr
    split <;> omega
  cases p with
  | code => have := hs.c; show a.code.size ≤ 100; omega
  | other => have := hs.o; show a.other.size ≤ 100; omega
  | name => exact hs.n
  | year => exact Nat.le_trans i1 (by decide)
  | span => exact hn _ _ i1 (by decide)
  | amount => exact Nat.le_trans i2 (by decide)
  | limit => exact hn _ _ i2 (by decide)
  | least => exact Nat.le_trans i5 (by decide)
  | percent => exact Nat.le_trans i3 (by decide)
  | number => exact Nat.le_trans i4 (by decide)
  | count => exact Nat.le_trans i4 (by decide)
  | day => exact dayT_100 _
  | lit w => exact of_decide_eq_true hlit

theorem text_small {a : Art} (hs : SmA a) : (textA a).size ≤ 1000 := by
  unfold textA
  cases hf : formOf a with
  | none => exact Nat.zero_le _
  | some f =>
    simp only
    split
    · have hm := List.mem_of_find?_eq_some hf
      have h7 := (forms_small f hm).2
      have h := joinL_len 32 100 (f.parts.map fun p => (wordOf a p).data.toList) (fun x hx => by
        obtain ⟨p, hp, rfl⟩ := List.mem_map.1 hx
        have := small_word a hs f hm p hp
        simpa using this)
      rw [List.length_map] at h
      unfold writeOf
      rw [txt_size]
      have : f.parts.length * (100 + 1) ≤ 7 * (100 + 1) := Nat.mul_le_mul_right _ h7
      omega
    · exact Nat.zero_le _

structure ArtRow (W : World) (g n : Nat) : Prop where
  lt : g < W.heap.size
  row : ∀ k, k < n → ∃ x : Art, SmA x ∧ ∀ j, j < 11 → W.cell? ⟨g, k * 11 + j, none⟩ = x.cells[j]?
theorem ArtRow.below {A B : World} {g n : Nat} (h : ArtRow A g n) (hb : Below A.heap.size A B) : ArtRow B g n := by
  refine ⟨Nat.lt_of_lt_of_le h.lt hb.size, fun k hk => ?_⟩
  obtain ⟨x, hx, hc⟩ := h.row k hk
  exact ⟨x, hx, fun j hj => (hb.cell (p := ⟨g, k * 11 + j, none⟩) h.lt).trans (hc j hj)⟩
theorem ArtRow.new (W : World) (arr : Array Value) (n : Nat) (h : ∀ k, k < n → ∃ x : Art, SmA x ∧ ∀ j, j < 11 → arr[k * 11 + j]? = x.cells[j]?) : ArtRow (W.alloc (.cells arr 24)) W.heap.size n := by
  refine ⟨by simp, fun k hk => ?_⟩
  obtain ⟨x, hx, hc⟩ := h k hk
  exact ⟨x, hx, fun j hj => (art_cell (heap_alloc_new W _) _).trans (hc j hj)⟩

theorem eleven {P : Nat → Prop} (h0 : P 0) (h1 : P 1) (h2 : P 2) (h3 : P 3) (h4 : P 4) (h5 : P 5) (h6 : P 6) (h7 : P 7) (h8 : P 8) (h9 : P 9) (h10 : P 10) (j : Nat) (hj : j < 11) : P j := by
  match j, hj with
  | 0, _ => exact h0
  | 1, _ => exact h1
  | 2, _ => exact h2
  | 3, _ => exact h3
  | 4, _ => exact h4
  | 5, _ => exact h5
  | 6, _ => exact h6
  | 7, _ => exact h7
  | 8, _ => exact h8
  | 9, _ => exact h9
  | 10, _ => exact h10

theorem four_cells (a b c d : Art) (ha : SmA a) (hb : SmA b) (hc : SmA c) (hd : SmA d) : ∀ k, k < 4 → ∃ x : Art, SmA x ∧ ∀ j, j < 11 → (#[.int .i64 a.kind, .string a.code, .string a.other, .string a.name, .int .i64 a.year, .int .i64 a.amount, .int .i64 a.percent, .int .i64 a.number, .int .i64 a.day, .int .i64 a.least, .int .i64 a.what, .int .i64 b.kind, .string b.code, .string b.other, .string b.name, .int .i64 b.year, .int .i64 b.amount, .int .i64 b.percent, .int .i64 b.number, .int .i64 b.day, .int .i64 b.least, .int .i64 b.what, .int .i64 c.kind, .string c.code, .string c.other, .string c.name, .int .i64 c.year, .int .i64 c.amount, .int .i64 c.percent, .int .i64 c.number, .int .i64 c.day, .int .i64 c.least, .int .i64 c.what, .int .i64 d.kind, .string d.code, .string d.other, .string d.name, .int .i64 d.year, .int .i64 d.amount, .int .i64 d.percent, .int .i64 d.number, .int .i64 d.day, .int .i64 d.least, .int .i64 d.what] : Array Value)[k * 11 + j]? = x.cells[j]? := fun k hk => by
  match k, hk with
  | 0, _ => exact ⟨a, ha, eleven rfl rfl rfl rfl rfl rfl rfl rfl rfl rfl rfl⟩
  | 1, _ => exact ⟨b, hb, eleven rfl rfl rfl rfl rfl rfl rfl rfl rfl rfl rfl⟩
  | 2, _ => exact ⟨c, hc, eleven rfl rfl rfl rfl rfl rfl rfl rfl rfl rfl rfl⟩
  | 3, _ => exact ⟨d, hd, eleven rfl rfl rfl rfl rfl rfl rfl rfl rfl rfl rfl⟩
theorem three_cells (a b c : Art) (ha : SmA a) (hb : SmA b) (hc : SmA c) : ∀ k, k < 3 → ∃ x : Art, SmA x ∧ ∀ j, j < 11 → (#[.int .i64 a.kind, .string a.code, .string a.other, .string a.name, .int .i64 a.year, .int .i64 a.amount, .int .i64 a.percent, .int .i64 a.number, .int .i64 a.day, .int .i64 a.least, .int .i64 a.what, .int .i64 b.kind, .string b.code, .string b.other, .string b.name, .int .i64 b.year, .int .i64 b.amount, .int .i64 b.percent, .int .i64 b.number, .int .i64 b.day, .int .i64 b.least, .int .i64 b.what, .int .i64 c.kind, .string c.code, .string c.other, .string c.name, .int .i64 c.year, .int .i64 c.amount, .int .i64 c.percent, .int .i64 c.number, .int .i64 c.day, .int .i64 c.least, .int .i64 c.what] : Array Value)[k * 11 + j]? = x.cells[j]? := fun k hk => by
  match k, hk with
  | 0, _ => exact ⟨a, ha, eleven rfl rfl rfl rfl rfl rfl rfl rfl rfl rfl rfl⟩
  | 1, _ => exact ⟨b, hb, eleven rfl rfl rfl rfl rfl rfl rfl rfl rfl rfl rfl⟩
  | 2, _ => exact ⟨c, hc, eleven rfl rfl rfl rfl rfl rfl rfl rfl rfl rfl rfl⟩

structure TextRow (w : World) (g n m : Nat) (W : World) : Prop where
  row : ∀ j : Nat, j < n → ∃ y, W.cell? ⟨g, j, none⟩ = some (.string y) ∧ y.size ≤ m
  old : Below w.heap.size w W
  lt : g < W.heap.size
theorem TextRow.later {w : World} {g n m : Nat} {A B : World} (h : TextRow w g n m A) (hb : Below A.heap.size A B) : TextRow w g n m B := by
  refine ⟨fun j hj => ?_, h.old.trans (hb.mono h.old.size), Nat.lt_of_lt_of_le h.lt hb.size⟩
  obtain ⟨y, h1, h2⟩ := h.row j hj
  exact ⟨y, by rw [hb.cell (p := ⟨g, j, none⟩) h.lt]; exact h1, h2⟩
theorem TextRow.new {w W : World} (l : List ByteArray) (n m : Nat) (hb : Below w.heap.size w W) (hn : n = l.length) (h : ∀ x ∈ l, x.size ≤ m) : TextRow w W.heap.size n m (W.alloc (.cells (cellsS l).toArray 9)) := by
  subst hn
  refine ⟨fun j hj => ?_, hb.alloc hb.size _, by simp⟩
  refine ⟨l[j], ?_, h _ (List.getElem_mem hj)⟩
  rw [cell_of_row _ _ _ _ _ _ (heap_alloc_new W _)]
  have := cellsS_get l j hj
  simpa using this

structure A0 (w : World) (tb pr po : Nat) (raw oth : Art) (W : World) : Prop where
  raw : ArtAt W pr raw
  oth : ArtAt W po oth
  tape : TapeAt W tb
  old : Below w.heap.size w W
  far : pr ≠ tb ∧ po ≠ tb ∧ w.heap.size ≤ tb
theorem ArtAt.turn {A B : World} {b tb : Nat} {a : Art} (h : ArtAt A b a) (hg : A.grownBy B (some tb)) (hne : b ≠ tb) : ArtAt B b a := (hg.block b h.lt (fun e => hne (by injection e))).trans h
theorem A0.later {w : World} {tb pr po : Nat} {raw oth : Art} {A B : World} (h : A0 w tb pr po raw oth A) (hb : Below A.heap.size A B) : A0 w tb pr po raw oth B :=
  ⟨h.raw.below hb, h.oth.below hb, h.tape.below hb, h.old.trans (hb.mono h.old.size), h.far⟩
theorem A0.turn {w : World} {tb pr po : Nat} {raw oth : Art} {A B : World} (h : A0 w tb pr po raw oth A) (ht : TapeAt B tb) (hg : A.grownBy B (some tb)) : A0 w tb pr po raw oth B :=
  ⟨h.raw.turn hg h.far.1, h.oth.turn hg h.far.2.1, ht, below_turn h.old hg h.far.2.2, h.far⟩

structure AnInv (w : World) (tb pr po pa : Nat) (raw oth a : Art) (W : World) : Prop extends A0 w tb pr po raw oth W where
  art : ArtAt W pa a
  farA : pa ≠ tb
theorem AnInv.later {w : World} {tb pr po pa : Nat} {raw oth a : Art} {A B : World} (h : AnInv w tb pr po pa raw oth a A) (hb : Below A.heap.size A B) : AnInv w tb pr po pa raw oth a B :=
  ⟨h.toA0.later hb, h.art.below hb, h.farA⟩
theorem AnInv.turn {w : World} {tb pr po pa : Nat} {raw oth a : Art} {A B : World} (h : AnInv w tb pr po pa raw oth a A) (ht : TapeAt B tb) (hg : A.grownBy B (some tb)) : AnInv w tb pr po pa raw oth a B :=
  ⟨h.toA0.turn ht hg, h.art.turn hg h.farA, h.farA⟩
theorem AnInv.new {w : World} {tb pr po : Nat} {raw oth : Art} {A : World} (a : Art) (h : A0 w tb pr po raw oth A) : AnInv w tb pr po A.heap.size raw oth a (A.alloc (.cells a.cells 24)) :=
  ⟨h.later (below_alloc _ _), heap_alloc_new A _, by have := h.tape.lt; omega⟩

structure BnInv (w : World) (tb pr po pa pb : Nat) (raw oth a b : Art) (W : World) : Prop extends AnInv w tb pr po pa raw oth a W where
  bent : ArtAt W pb b
  farB : pb ≠ tb
theorem BnInv.later {w : World} {tb pr po pa pb : Nat} {raw oth a b : Art} {A B : World} (h : BnInv w tb pr po pa pb raw oth a b A) (hb : Below A.heap.size A B) : BnInv w tb pr po pa pb raw oth a b B :=
  ⟨h.toAnInv.later hb, h.bent.below hb, h.farB⟩
theorem BnInv.turn {w : World} {tb pr po pa pb : Nat} {raw oth a b : Art} {A B : World} (h : BnInv w tb pr po pa pb raw oth a b A) (ht : TapeAt B tb) (hg : A.grownBy B (some tb)) : BnInv w tb pr po pa pb raw oth a b B :=
  ⟨h.toAnInv.turn ht hg, h.bent.turn hg h.farB, h.farB⟩
theorem BnInv.new {w : World} {tb pr po pa : Nat} {raw oth a : Art} {A : World} (b : Art) (h : AnInv w tb pr po pa raw oth a A) : BnInv w tb pr po pa A.heap.size raw oth a b (A.alloc (.cells b.cells 24)) :=
  ⟨h.later (below_alloc _ _), heap_alloc_new A _, by have := h.tape.lt; omega⟩

theorem smA_of {a : Art} (h : smallB a = true) (hb : ArtBd a) : SmA a := by
  unfold smallB at h
  simp only [Bool.and_eq_true, decide_eq_true_eq] at h
  exact ⟨hb, h.1, h.2.1, h.2.2⟩

theorem ints_later {w W : World} {v : Value} {n : Nat} (h : IntsAt w v n w.heap.size) (hb : Below w.heap.size w W) : IntsAt W v n W.heap.size := by
  obtain ⟨ao, cap, hv, hc, hx⟩ := h.keep (w' := W) fun k hk => hb.block k hk
  refine ⟨ao, cap, hv, hc, fun i hi => ?_⟩
  obtain ⟨b, o, x, h1, h2, h3⟩ := hx i hi
  exact ⟨b, o, x, h1, Nat.lt_of_lt_of_le h2 hb.size, h3⟩

theorem two_boxes (w : World) (a b : Art) : ArtAt ((w.alloc (.cells a.cells 24)).alloc (.cells b.cells 24)) w.heap.size a ∧ ArtAt ((w.alloc (.cells a.cells 24)).alloc (.cells b.cells 24)) (w.heap.size + 1) b ∧ Below w.heap.size w ((w.alloc (.cells a.cells 24)).alloc (.cells b.cells 24)) := by
  have e1 : (w.alloc (.cells a.cells 24)).heap.size = w.heap.size + 1 := by simp
  refine ⟨?_, ?_, ((Below.refl _ w).alloc (Nat.le_refl _) _).alloc (by simp) _⟩
  · exact (Below.heap_alloc _ _ _ (by simp)).trans (heap_alloc_new w _)
  · have := heap_alloc_new (w.alloc (.cells a.cells 24)) (.cells b.cells 24)
    rwa [e1] at this

structure O1 (w : World) (tb pr po pa G : Nat) (raw oth a : Art) (W : World) : Prop extends AnInv w tb pr po pa raw oth a W where
  four : ArtRow W G 4
theorem O1.later {w : World} {tb pr po pa G : Nat} {raw oth a : Art} {A B : World} (h : O1 w tb pr po pa G raw oth a A) (hb : Below A.heap.size A B) : O1 w tb pr po pa G raw oth a B :=
  ⟨h.toAnInv.later hb, h.four.below hb⟩
structure O2 (w : World) (tb pr po pa G X : Nat) (raw oth a x : Art) (W : World) : Prop extends O1 w tb pr po pa G raw oth a W where
  look : ArtAt W X x
theorem O2.later {w : World} {tb pr po pa G X : Nat} {raw oth a x : Art} {A B : World} (h : O2 w tb pr po pa G X raw oth a x A) (hb : Below A.heap.size A B) : O2 w tb pr po pa G X raw oth a x B :=
  ⟨h.toO1.later hb, h.look.below hb⟩
structure O3 (w : World) (tb pr po pa G X H : Nat) (raw oth a x : Art) (W : World) : Prop extends O2 w tb pr po pa G X raw oth a x W where
  three : ArtRow W H 3
theorem O3.later {w : World} {tb pr po pa G X H : Nat} {raw oth a x : Art} {A B : World} (h : O3 w tb pr po pa G X H raw oth a x A) (hb : Below A.heap.size A B) : O3 w tb pr po pa G X H raw oth a x B :=
  ⟨h.toO2.later hb, h.three.below hb⟩
structure O4 (w : World) (tb pr po pa G X H Y : Nat) (raw oth a x y : Art) (W : World) : Prop extends O3 w tb pr po pa G X H raw oth a x W where
  with' : ArtAt W Y y
theorem O4.later {w : World} {tb pr po pa G X H Y : Nat} {raw oth a x y : Art} {A B : World} (h : O4 w tb pr po pa G X H Y raw oth a x y A) (hb : Below A.heap.size A B) : O4 w tb pr po pa G X H Y raw oth a x y B :=
  ⟨h.toO3.later hb, h.with'.below hb⟩

def BtI (I : World → Prop) (e : Ending) (w' : World) : Prop := ∃ bk b4 b5 b6 b7 b8 b9 b10 : Int, ∃ b1 b2 b3 : ByteArray, e = .returned (.agg #[.int .i64 bk, .string b1, .string b2, .string b3, .int .i64 b4, .int .i64 b5, .int .i64 b6, .int .i64 b7, .int .i64 b8, .int .i64 b9, .int .i64 b10]) ∧ SmA ⟨bk, b1, b2, b3, b4, b5, b6, b7, b8, b9, b10⟩ ∧ I w'

def spoilL : List ByteArray := [⟨#[]⟩, ⟨#[32]⟩, ⟨#[48]⟩, ⟨#[49]⟩, ⟨#[45]⟩, ⟨#[97, 108, 108]⟩, ⟨#[110, 111, 110, 101]⟩, ⟨#[46]⟩, ⟨#[120]⟩]
def numsL : List ByteArray := [⟨#[]⟩, ⟨#[48]⟩, ⟨#[48, 48]⟩, ⟨#[48, 49]⟩, ⟨#[57, 57, 57, 57, 57, 57, 57, 57, 57, 57, 57, 57, 57, 57, 57]⟩, ⟨#[49, 48, 48, 48, 48, 48, 48, 48, 48, 48, 48, 48, 48, 48, 48, 48]⟩, ⟨#[45, 49]⟩, ⟨#[55, 32]⟩]

end Go.Proofs.YtdgckdmgplpobaaGreatDoor

/- The texts of plain articles, written out form by form; of no function of the program; no condition. -/
namespace Go.Proofs.YtdgckdmgplpobaaGreatDoor
open Go.RowKit Go.Lib Go.Proofs

theorem rtm_years (yr : Int) (nu : Int) (hy : 0 ≤ yr ∧ yr ≤ 99) (hc : 1 ≤ nu ∧ nu ≤ 4) : textA ⟨1, ⟨#[]⟩, ⟨#[]⟩, ⟨#[]⟩, yr, 0, 0, nu, 0, 0, 0⟩ = (⟨#[121, 101, 97, 114, 115]⟩ : ByteArray) ++ (((⟨#[32]⟩ : ByteArray) ++ itoaT yr) ++ ⟨#[32]⟩ ++ itoaT nu) := by
  refine (plain_of (forms_at 0 (by decide)) (by intro p hp; simp only [formsL, litW, List.getElem_cons_zero, List.mem_cons, List.mem_nil_iff, or_false] at hp; rcases hp with rfl | rfl | rfl <;> first | trivial | assumption | exact Or.inl rfl | (simp only [okP]; omega) | simp [okP]) rfl).1.trans (bytes_ext ?_)
  unfold writeOf
  rw [txt_list]
  simp [formsL, litW, wordOf, joinL, txt_list]

theorem rtm_heading (cd : ByteArray) (nm : ByteArray) (c1 : isCodeB cd = true) (c3 : nameB nm = true) : textA ⟨2, cd, ⟨#[]⟩, nm, 0, 0, 0, 0, 0, 0, 0⟩ = (⟨#[104, 101, 97, 100, 105, 110, 103]⟩ : ByteArray) ++ (((⟨#[32]⟩ : ByteArray) ++ cd) ++ ⟨#[32]⟩ ++ nm) := by
  refine (plain_of (forms_at 1 (by decide)) (by intro p hp; simp only [formsL, litW, List.getElem_cons_zero, List.getElem_cons_succ, List.mem_cons, List.mem_nil_iff, or_false] at hp; rcases hp with rfl | rfl | rfl <;> first | trivial | assumption | exact Or.inl rfl | (simp only [okP]; omega) | simp [okP]) rfl).1.trans (bytes_ext ?_)
  unfold writeOf
  rw [txt_list]
  simp [formsL, litW, wordOf, joinL, txt_list]

theorem rtm_line (cd : ByteArray) (yr : Int) (am : Int) (c1 : isCodeB cd = true) (hy : 0 ≤ yr ∧ yr ≤ 99) (ha : 0 ≤ am ∧ am ≤ 1000000000000) : textA ⟨3, cd, ⟨#[]⟩, ⟨#[]⟩, yr, am, 0, 0, 0, 0, 0⟩ = (⟨#[108, 105, 110, 101]⟩ : ByteArray) ++ ((((⟨#[32]⟩ : ByteArray) ++ cd) ++ ⟨#[32]⟩ ++ numOr yr allT) ++ ⟨#[32]⟩ ++ itoaT am) := by
  refine (plain_of (forms_at 2 (by decide)) (by intro p hp; simp only [formsL, litW, List.getElem_cons_zero, List.getElem_cons_succ, List.mem_cons, List.mem_nil_iff, or_false] at hp; rcases hp with rfl | rfl | rfl | rfl <;> first | trivial | assumption | exact Or.inl rfl | (simp only [okP]; omega) | simp [okP]) rfl).1.trans (bytes_ext ?_)
  unfold writeOf
  rw [txt_list]
  rw [show numOr yr allT = itoaT yr from if_neg (by omega)]
  simp [formsL, litW, wordOf, joinL, txt_list]

theorem rtm_ceiling (cd : ByteArray) (yr : Int) (am : Int) (c1 : isCodeB cd = true) (hs : yr = -1 ∨ 0 ≤ yr ∧ yr ≤ 99) (ha : 0 ≤ am ∧ am ≤ 1000000000000) : textA ⟨4, cd, ⟨#[]⟩, ⟨#[]⟩, yr, am, 0, 0, 0, 0, 0⟩ = (⟨#[99, 101, 105, 108, 105, 110, 103]⟩ : ByteArray) ++ ((((⟨#[32]⟩ : ByteArray) ++ cd) ++ ⟨#[32]⟩ ++ numOr yr allT) ++ ⟨#[32]⟩ ++ itoaT am) := by
  refine (plain_of (forms_at 3 (by decide)) (by intro p hp; simp only [formsL, litW, List.getElem_cons_zero, List.getElem_cons_succ, List.mem_cons, List.mem_nil_iff, or_false] at hp; rcases hp with rfl | rfl | rfl | rfl <;> first | trivial | assumption | exact Or.inl rfl | (simp only [okP]; omega) | simp [okP]) rfl).1.trans (bytes_ext ?_)
  unfold writeOf
  rw [txt_list]
  simp [formsL, litW, wordOf, joinL, txt_list]

theorem rtm_floor (cd : ByteArray) (yr : Int) (am : Int) (c1 : isCodeB cd = true) (hs : yr = -1 ∨ 0 ≤ yr ∧ yr ≤ 99) (ha : 0 ≤ am ∧ am ≤ 1000000000000) : textA ⟨5, cd, ⟨#[]⟩, ⟨#[]⟩, yr, am, 0, 0, 0, 0, 0⟩ = (⟨#[102, 108, 111, 111, 114]⟩ : ByteArray) ++ ((((⟨#[32]⟩ : ByteArray) ++ cd) ++ ⟨#[32]⟩ ++ numOr yr allT) ++ ⟨#[32]⟩ ++ itoaT am) := by
  refine (plain_of (forms_at 4 (by decide)) (by intro p hp; simp only [formsL, litW, List.getElem_cons_zero, List.getElem_cons_succ, List.mem_cons, List.mem_nil_iff, or_false] at hp; rcases hp with rfl | rfl | rfl | rfl <;> first | trivial | assumption | exact Or.inl rfl | (simp only [okP]; omega) | simp [okP]) rfl).1.trans (bytes_ext ?_)
  unfold writeOf
  rw [txt_list]
  simp [formsL, litW, wordOf, joinL, txt_list]

theorem rtm_earmark (cd : ByteArray) (ot : ByteArray) (pc : Int) (c1 : isCodeB cd = true) (c2 : isCodeB ot = true) (hp : 0 ≤ pc ∧ pc ≤ 100) : textA ⟨6, cd, ot, ⟨#[]⟩, 0, 0, pc, 0, 0, 0, 0⟩ = (⟨#[101, 97, 114, 109, 97, 114, 107]⟩ : ByteArray) ++ ((((⟨#[32]⟩ : ByteArray) ++ ot) ++ ⟨#[32]⟩ ++ cd) ++ ⟨#[32]⟩ ++ itoaT pc) := by
  refine (plain_of (forms_at 5 (by decide)) (by intro p hp; simp only [formsL, litW, List.getElem_cons_zero, List.getElem_cons_succ, List.mem_cons, List.mem_nil_iff, or_false] at hp; rcases hp with rfl | rfl | rfl | rfl <;> first | trivial | assumption | exact Or.inl rfl | (simp only [okP]; omega) | simp [okP]) rfl).1.trans (bytes_ext ?_)
  unfold writeOf
  rw [txt_list]
  simp [formsL, litW, wordOf, joinL, txt_list]

theorem rtm_wait (cd : ByteArray) (yr : Int) (am : Int) (dy : Int) (c1 : isCodeB cd = true) (hy : 0 ≤ yr ∧ yr ≤ 99) (ha : 0 ≤ am ∧ am ≤ 1000000000000) (hd : 0 ≤ dy ∧ dy ≤ 35990) : textA ⟨7, cd, ⟨#[]⟩, ⟨#[]⟩, yr, am, 0, 0, dy, 0, 0⟩ = (⟨#[119, 97, 105, 116]⟩ : ByteArray) ++ (((((⟨#[32]⟩ : ByteArray) ++ cd) ++ ⟨#[32]⟩ ++ itoaT yr) ++ ⟨#[32]⟩ ++ itoaT am) ++ ⟨#[32]⟩ ++ dayT dy) := by
  refine (plain_of (forms_at 6 (by decide)) (by intro p hp; simp only [formsL, litW, List.getElem_cons_zero, List.getElem_cons_succ, List.mem_cons, List.mem_nil_iff, or_false] at hp; rcases hp with rfl | rfl | rfl | rfl | rfl <;> first | trivial | assumption | exact Or.inl rfl | (simp only [okP]; omega) | simp [okP]) rfl).1.trans (bytes_ext ?_)
  unfold writeOf
  rw [txt_list]
  simp [formsL, litW, wordOf, joinL, txt_list]

theorem rtm_reach (cd : ByteArray) (ot : ByteArray) (yr : Int) (am : Int) (ls : Int) (c1 : isCodeB cd = true) (c2 : isCodeB ot = true) (hy : 0 ≤ yr ∧ yr ≤ 99) (ha : 0 ≤ am ∧ am ≤ 1000000000000) (hl : 0 ≤ ls ∧ ls ≤ 1000000000000) : textA ⟨8, cd, ot, ⟨#[]⟩, yr, am, 0, 0, 0, ls, 0⟩ = (⟨#[114, 101, 97, 99, 104]⟩ : ByteArray) ++ ((((((⟨#[32]⟩ : ByteArray) ++ cd) ++ ⟨#[32]⟩ ++ itoaT yr) ++ ⟨#[32]⟩ ++ itoaT am) ++ ⟨#[32]⟩ ++ ot) ++ ⟨#[32]⟩ ++ itoaT ls) := by
  refine (plain_of (forms_at 7 (by decide)) (by intro p hp; simp only [formsL, litW, List.getElem_cons_zero, List.getElem_cons_succ, List.mem_cons, List.mem_nil_iff, or_false] at hp; rcases hp with rfl | rfl | rfl | rfl | rfl | rfl <;> first | trivial | assumption | exact Or.inl rfl | (simp only [okP]; omega) | simp [okP]) rfl).1.trans (bytes_ext ?_)
  unfold writeOf
  rw [txt_list]
  simp [formsL, litW, wordOf, joinL, txt_list]

theorem rtm_rule (cd : ByteArray) (ot : ByteArray) (pc : Int) (nu : Int) (c1 : isCodeB cd = true) (c2 : isCodeB ot = true) (hn : 1 ≤ nu ∧ nu ≤ 1000000) (hp : 0 ≤ pc ∧ pc ≤ 100) : textA ⟨9, cd, ot, ⟨#[]⟩, 0, 0, pc, nu, 0, 0, 0⟩ = (⟨#[114, 117, 108, 101]⟩ : ByteArray) ++ (((((⟨#[32]⟩ : ByteArray) ++ itoaT nu) ++ ⟨#[32]⟩ ++ cd) ++ ⟨#[32]⟩ ++ ot) ++ ⟨#[32]⟩ ++ itoaT pc) := by
  refine (plain_of (forms_at 8 (by decide)) (by intro p hp; simp only [formsL, litW, List.getElem_cons_zero, List.getElem_cons_succ, List.mem_cons, List.mem_nil_iff, or_false] at hp; rcases hp with rfl | rfl | rfl | rfl | rfl <;> first | trivial | assumption | exact Or.inl rfl | (simp only [okP]; omega) | simp [okP]) rfl).1.trans (bytes_ext ?_)
  unfold writeOf
  rw [txt_list]
  simp [formsL, litW, wordOf, joinL, txt_list]

theorem rtm_aline (cd : ByteArray) (yr : Int) (am : Int) (nu : Int) (dy : Int) (c1 : isCodeB cd = true) (hy : 0 ≤ yr ∧ yr ≤ 99) (ha : 0 ≤ am ∧ am ≤ 1000000000000) (hd : 0 ≤ dy ∧ dy ≤ 35990) (hn : 1 ≤ nu ∧ nu ≤ 1000000) : textA ⟨10, cd, ⟨#[]⟩, ⟨#[]⟩, yr, am, 0, nu, dy, 0, 1⟩ = (⟨#[97, 109, 101, 110, 100]⟩ : ByteArray) ++ (((((((⟨#[32]⟩ : ByteArray) ++ dayT dy) ++ ⟨#[32]⟩ ++ itoaT nu) ++ ⟨#[32]⟩ ++ ⟨#[108, 105, 110, 101]⟩) ++ ⟨#[32]⟩ ++ cd) ++ ⟨#[32]⟩ ++ numOr yr allT) ++ ⟨#[32]⟩ ++ itoaT am) := by
  refine (plain_of (forms_at 9 (by decide)) (by intro p hp; simp only [formsL, litW, List.getElem_cons_zero, List.getElem_cons_succ, List.mem_cons, List.mem_nil_iff, or_false] at hp; rcases hp with rfl | rfl | rfl | rfl | rfl | rfl | rfl <;> first | trivial | assumption | exact Or.inl rfl | (simp only [okP]; omega) | simp [okP]) rfl).1.trans (bytes_ext ?_)
  unfold writeOf
  rw [txt_list]
  rw [show numOr yr allT = itoaT yr from if_neg (by omega)]
  simp [formsL, litW, wordOf, joinL, txt_list]

theorem rtm_aceilingA (cd : ByteArray) (yr : Int) (am : Int) (nu : Int) (dy : Int) (c1 : isCodeB cd = true) (hs : yr = -1 ∨ 0 ≤ yr ∧ yr ≤ 99) (ha : 0 ≤ am ∧ am ≤ 1000000000000) (hd : 0 ≤ dy ∧ dy ≤ 35990) (hn : 1 ≤ nu ∧ nu ≤ 1000000) : textA ⟨10, cd, ⟨#[]⟩, ⟨#[]⟩, yr, am, 0, nu, dy, 0, 2⟩ = (⟨#[97, 109, 101, 110, 100]⟩ : ByteArray) ++ (((((((⟨#[32]⟩ : ByteArray) ++ dayT dy) ++ ⟨#[32]⟩ ++ itoaT nu) ++ ⟨#[32]⟩ ++ ⟨#[99, 101, 105, 108, 105, 110, 103]⟩) ++ ⟨#[32]⟩ ++ cd) ++ ⟨#[32]⟩ ++ numOr yr allT) ++ ⟨#[32]⟩ ++ itoaT am) := by
  refine (plain_of (forms_at 10 (by decide)) (by intro p hp; simp only [formsL, litW, List.getElem_cons_zero, List.getElem_cons_succ, List.mem_cons, List.mem_nil_iff, or_false] at hp; rcases hp with rfl | rfl | rfl | rfl | rfl | rfl | rfl <;> first | trivial | assumption | exact Or.inl rfl | (simp only [okP]; omega) | simp [okP]) rfl).1.trans (bytes_ext ?_)
  unfold writeOf
  rw [txt_list]
  have hx : numOr am noneT = itoaT am := if_neg (by omega)
  simp [formsL, litW, wordOf, joinL, txt_list, hx]

theorem rtm_aceilingN (cd : ByteArray) (yr : Int) (nu : Int) (dy : Int) (c1 : isCodeB cd = true) (hs : yr = -1 ∨ 0 ≤ yr ∧ yr ≤ 99) (hd : 0 ≤ dy ∧ dy ≤ 35990) (hn : 1 ≤ nu ∧ nu ≤ 1000000) : textA ⟨10, cd, ⟨#[]⟩, ⟨#[]⟩, yr, (-1), 0, nu, dy, 0, 2⟩ = (⟨#[97, 109, 101, 110, 100]⟩ : ByteArray) ++ (((((((⟨#[32]⟩ : ByteArray) ++ dayT dy) ++ ⟨#[32]⟩ ++ itoaT nu) ++ ⟨#[32]⟩ ++ ⟨#[99, 101, 105, 108, 105, 110, 103]⟩) ++ ⟨#[32]⟩ ++ cd) ++ ⟨#[32]⟩ ++ numOr yr allT) ++ ⟨#[32]⟩ ++ ⟨#[110, 111, 110, 101]⟩) := by
  refine (plain_of (forms_at 10 (by decide)) (by intro p hp; simp only [formsL, litW, List.getElem_cons_zero, List.getElem_cons_succ, List.mem_cons, List.mem_nil_iff, or_false] at hp; rcases hp with rfl | rfl | rfl | rfl | rfl | rfl | rfl <;> first | trivial | assumption | exact Or.inl rfl | (simp only [okP]; omega) | simp [okP]) rfl).1.trans (bytes_ext ?_)
  unfold writeOf
  rw [txt_list]
  simp [formsL, litW, wordOf, joinL, txt_list, numOr, noneT]

theorem rtm_afloor (cd : ByteArray) (yr : Int) (am : Int) (nu : Int) (dy : Int) (c1 : isCodeB cd = true) (hs : yr = -1 ∨ 0 ≤ yr ∧ yr ≤ 99) (ha : 0 ≤ am ∧ am ≤ 1000000000000) (hd : 0 ≤ dy ∧ dy ≤ 35990) (hn : 1 ≤ nu ∧ nu ≤ 1000000) : textA ⟨10, cd, ⟨#[]⟩, ⟨#[]⟩, yr, am, 0, nu, dy, 0, 3⟩ = (⟨#[97, 109, 101, 110, 100]⟩ : ByteArray) ++ (((((((⟨#[32]⟩ : ByteArray) ++ dayT dy) ++ ⟨#[32]⟩ ++ itoaT nu) ++ ⟨#[32]⟩ ++ ⟨#[102, 108, 111, 111, 114]⟩) ++ ⟨#[32]⟩ ++ cd) ++ ⟨#[32]⟩ ++ numOr yr allT) ++ ⟨#[32]⟩ ++ itoaT am) := by
  refine (plain_of (forms_at 11 (by decide)) (by intro p hp; simp only [formsL, litW, List.getElem_cons_zero, List.getElem_cons_succ, List.mem_cons, List.mem_nil_iff, or_false] at hp; rcases hp with rfl | rfl | rfl | rfl | rfl | rfl | rfl <;> first | trivial | assumption | exact Or.inl rfl | (simp only [okP]; omega) | simp [okP]) rfl).1.trans (bytes_ext ?_)
  unfold writeOf
  rw [txt_list]
  simp [formsL, litW, wordOf, joinL, txt_list]

end Go.Proofs.YtdgckdmgplpobaaGreatDoor

/- Contracts of the article's reference: whether a number is a year, a number, a percentage, a day, an amount; whether a text is a code, a name. -/
namespace Go.Proofs.YtdgckdmgplpobaaGreatDoor
open Go.RowKit Go.Lib Go.Proofs

theorem raryear_any (n : Int) (w : World) :
    Calls Tryz.prog 30 #[.int .i64 n] w fun e w' => e = .returned (.bool (inB n 0 99)) ∧ w = w' := by
  by_cases h1 : 0 ≤ n
  · by_cases h2 : n ≤ 99
    · have h : inB n 0 99 = true := inB_true.2 ⟨h1, h2⟩
      rw [h]; clear h
      go_enter Tryz.func30, Tryz.ntmps30
      go_wp2
      go_ret
      exact ⟨rfl, rfl⟩
    · have h : inB n 0 99 = false := inB_false.2 (fun q => h2 q.2)
      rw [h]; clear h
      go_enter Tryz.func30, Tryz.ntmps30
      go_wp2
      go_ret
      exact ⟨rfl, rfl⟩
  · have h : inB n 0 99 = false := inB_false.2 (fun q => h1 q.1)
    rw [h]; clear h
    go_enter Tryz.func30, Tryz.ntmps30
    go_wp2
    go_ret
    exact ⟨rfl, rfl⟩

theorem rarnumber_any (n : Int) (w : World) :
    Calls Tryz.prog 36 #[.int .i64 n] w fun e w' => e = .returned (.bool (inB n 1 1000000)) ∧ w = w' := by
  by_cases h1 : 1 ≤ n
  · by_cases h2 : n ≤ 1000000
    · have h : inB n 1 1000000 = true := inB_true.2 ⟨h1, h2⟩
      rw [h]; clear h
      go_enter Tryz.func36, Tryz.ntmps36
      go_wp2
      go_ret
      exact ⟨rfl, rfl⟩
    · have h : inB n 1 1000000 = false := inB_false.2 (fun q => h2 q.2)
      rw [h]; clear h
      go_enter Tryz.func36, Tryz.ntmps36
      go_wp2
      go_ret
      exact ⟨rfl, rfl⟩
  · have h : inB n 1 1000000 = false := inB_false.2 (fun q => h1 q.1)
    rw [h]; clear h
    go_enter Tryz.func36, Tryz.ntmps36
    go_wp2
    go_ret
    exact ⟨rfl, rfl⟩

theorem rarpercent_any (n : Int) (w : World) :
    Calls Tryz.prog 34 #[.int .i64 n] w fun e w' => e = .returned (.bool (inB n 0 100)) ∧ w = w' := by
  by_cases h1 : 0 ≤ n
  · by_cases h2 : n ≤ 100
    · have h : inB n 0 100 = true := inB_true.2 ⟨h1, h2⟩
      rw [h]; clear h
      go_enter Tryz.func34, Tryz.ntmps34
      go_wp2
      go_ret
      exact ⟨rfl, rfl⟩
    · have h : inB n 0 100 = false := inB_false.2 (fun q => h2 q.2)
      rw [h]; clear h
      go_enter Tryz.func34, Tryz.ntmps34
      go_wp2
      go_ret
      exact ⟨rfl, rfl⟩
  · have h : inB n 0 100 = false := inB_false.2 (fun q => h1 q.1)
    rw [h]; clear h
    go_enter Tryz.func34, Tryz.ntmps34
    go_wp2
    go_ret
    exact ⟨rfl, rfl⟩

theorem rarday_any (n : Int) (w : World) :
    Calls Tryz.prog 35 #[.int .i64 n] w fun e w' => e = .returned (.bool (inB n 0 35990)) ∧ w = w' := by
  by_cases h1 : 0 ≤ n
  · by_cases h2 : n ≤ 35990
    · have h : inB n 0 35990 = true := inB_true.2 ⟨h1, h2⟩
      rw [h]; clear h
      go_enter Tryz.func35, Tryz.ntmps35
      go_wp2
      go_ret
      exact ⟨rfl, rfl⟩
    · have h : inB n 0 35990 = false := inB_false.2 (fun q => h2 q.2)
      rw [h]; clear h
      go_enter Tryz.func35, Tryz.ntmps35
      go_wp2
      go_ret
      exact ⟨rfl, rfl⟩
  · have h : inB n 0 35990 = false := inB_false.2 (fun q => h1 q.1)
    rw [h]; clear h
    go_enter Tryz.func35, Tryz.ntmps35
    go_wp2
    go_ret
    exact ⟨rfl, rfl⟩

theorem rmValid_any (n : Int) (w : World) :
    Calls Tryz.prog 33 #[.int .i64 n] w fun e w' => e = .returned (.bool (inB n 0 1000000000000)) ∧ w = w' := by
  by_cases h1 : 0 ≤ n
  · by_cases h2 : n ≤ 1000000000000
    · have h : inB n 0 1000000000000 = true := inB_true.2 ⟨h1, h2⟩
      rw [h]; clear h
      go_enter Tryz.func33, Tryz.ntmps33
      go_wp2
      go_ret
      exact ⟨rfl, rfl⟩
    · have h : inB n 0 1000000000000 = false := inB_false.2 (fun q => h2 q.2)
      rw [h]; clear h
      go_enter Tryz.func33, Tryz.ntmps33
      go_wp2
      go_ret
      exact ⟨rfl, rfl⟩
  · have h : inB n 0 1000000000000 = false := inB_false.2 (fun q => h1 q.1)
    rw [h]; clear h
    go_enter Tryz.func33, Tryz.ntmps33
    go_wp2
    go_ret
    exact ⟨rfl, rfl⟩

set_option maxHeartbeats 1000000 in
theorem rarcode_any (s : ByteArray) (w : World) (hs : s.size ≤ 1000000) :
    Calls Tryz.prog 31 #[.string s] w fun e w' => e = .returned (.bool (isCodeB s)) ∧ Below w.heap.size w w' := by
  have HP := Lib.hid (rclParts_any s w hs)
  have hlen : (partsN s).length ≤ 4 := by
    by_cases h : partsN s = []
    · rw [h]; exact Nat.zero_le _
    · exact (partsN_inv h).1.2.1
  have hc : isCodeB s = decide (partsN s ≠ []) := rfl
  rw [hc]
  generalize partsN s = P at *
  clear hc hs
  cases P with
  | nil =>
    go_enter Tryz.func31, Tryz.ntmps31
    go_wp2_with fail
    refine (HP.out).mono ?_
    rintro e w1 ⟨v, rfl, ho, hb⟩
    obtain ⟨ao, cap, rfl, hcap, _, _⟩ := owned_ints ho
    have HB := Lib.hid hb
    clear hb ho
    go_wp2
    go_ret
    exact ⟨rfl, HB.out⟩
  | cons x l =>
    have hl : (0 : Int) < ((x :: l).length : Int) := by simp only [List.length_cons]; omega
    obtain ⟨m, hm⟩ : ∃ m, m = (x :: l).length := ⟨_, rfl⟩
    have hd : decide ((x :: l) ≠ []) = true := by simp
    rw [hd]
    rw [← hm] at hl
    go_enter Tryz.func31, Tryz.ntmps31
    go_wp2_with fail
    refine (HP.out).mono ?_
    rintro e w1 ⟨v, rfl, ho, hb⟩
    rw [← hm] at ho
    obtain ⟨ao, cap, rfl, hcap, _, _⟩ := owned_ints ho
    have HB := Lib.hid hb
    clear hb ho
    go_wp2
    go_ret
    exact ⟨rfl, HB.out⟩

theorem nameB_bytes (s : ByteArray) (h1 : 1 ≤ s.size) (h40 : s.size ≤ 40) (h0 : s.data.toList.getD 0 0 ≠ 32) (hl : s.data.toList.getD (s.size - 1) 0 ≠ 32) : nameB s = s.data.toList.all plainC := by
  unfold nameB
  have e1 : inB s.size 1 40 = true := inB_true.2 (And.intro (show (1 : Int) ≤ (s.size : Int) by omega) (show (s.size : Int) ≤ 40 by omega))
  have hsz := size_list s
  have e2 : hasPrefix s.data.toList [32] = false := by
    cases hd : s.data.toList with
    | nil => rw [hd] at hsz; have h00 : s.size = 0 := hsz; omega
    | cons a l =>
      rw [hd] at h0
      simp at h0
      simp [hasPrefix, List.isPrefixOf]
      exact fun e => h0 e.symm
  have e3 : hasSuffix s.data.toList [32] = false := by
    rw [Bool.eq_false_iff]
    intro ht
    unfold hasSuffix at ht
    obtain ⟨l, hl2⟩ := List.isSuffixOf_iff_suffix.1 ht
    rw [← hl2] at hl hsz
    have : s.size - 1 = l.length := by rw [hsz]; simp
    rw [this] at hl
    simp [List.getD] at hl
  rw [e1, e2, e3]
  rfl

theorem nameB_edge (s : ByteArray) (h : s.size < 1 ∨ 40 < s.size ∨ s.data.toList.getD 0 0 = 32 ∨ s.data.toList.getD (s.size - 1) 0 = 32) : nameB s = false := by
  rw [Bool.eq_false_iff]
  intro ht
  unfold nameB at ht
  simp only [Bool.and_eq_true, Bool.not_eq_true'] at ht
  obtain ⟨t1, t2, t3, _⟩ := ht
  have e1 := inB_true.1 t1
  have hsz := size_list s
  rcases h with h | h | h | h
  · omega
  · omega
  · cases hd : s.data.toList with
    | nil => rw [hd] at hsz; have h00 : s.size = 0 := hsz; omega
    | cons a l =>
      rw [hd] at h t2
      simp at h
      subst h
      simp [hasPrefix, List.isPrefixOf] at t2
  · have hne : s.data.toList ≠ [] := fun e => by rw [e] at hsz; have h00 : s.size = 0 := hsz; omega
    obtain ⟨x, hx⟩ : ∃ x, s.data.toList = s.data.toList.dropLast ++ [x] := ⟨_, (List.dropLast_concat_getLast hne).symm⟩
    generalize s.data.toList.dropLast = l at hx
    rw [hx] at h hsz t3
    have : s.size - 1 = l.length := by rw [hsz]; simp
    rw [this] at h
    simp [List.getD] at h
    subst h
    have : hasSuffix (l ++ [32]) [32] = true := by
      unfold hasSuffix
      exact List.isSuffixOf_iff_suffix.2 ⟨l, rfl⟩
    rw [this] at t3; cases t3

set_option maxRecDepth 100000 in
set_option maxHeartbeats 4000000 in
theorem rclname_any (s : ByteArray) (w : World) (hs : s.size ≤ 1000000) :
    Calls Tryz.prog 68 #[.string s] w fun e w' => e = .returned (.bool (nameB s)) ∧ Below w.heap.size w w' := by
  obtain ⟨r, hr⟩ : ∃ r, nameB s = r := ⟨_, rfl⟩
  rw [hr]
  have hlen : s.data.toList.length = s.size := (size_list s).symm
  have hget : ∀ j (h : j < s.size), s.data.toList.getD j 0 = s[j] := fun j h => by
    rw [List.getD_eq_getElem?_getD, List.getElem?_eq_getElem (by rw [hlen]; exact h)]
    rfl
  by_cases z1 : s.size < 1
  · have hrr : r = false := by rw [← hr]; exact nameB_edge s (Or.inl z1)
    subst hrr
    have z1' : (s.size : Int) < 1 := by omega
    clear hr hget hlen
    go_enter Tryz.func68, Tryz.ntmps68
    go_wp2
    go_ret
    exact ⟨rfl, Below.refl _ _⟩
  · by_cases z2 : 40 < s.size
    · have hrr : r = false := by rw [← hr]; exact nameB_edge s (Or.inr (Or.inl z2))
      subst hrr
      have z2' : (40 : Int) < (s.size : Int) := by omega
      clear hr hget hlen
      go_enter Tryz.func68, Tryz.ntmps68
      go_wp2
      go_ret
      exact ⟨rfl, Below.refl _ _⟩
    · have k1 : (1 : Int) ≤ (s.size : Int) := by omega
      have k2 : (s.size : Int) ≤ 40 := by omega
      have k0 : 0 < s.size := by omega
      have kl : s.size - 1 < s.size := by omega
      by_cases z3 : s[0] = 32
      · have hrr : r = false := by rw [← hr]; exact nameB_edge s (Or.inr (Or.inr (Or.inl (by rw [hget 0 k0]; exact z3))))
        subst hrr
        have b0 : ((s[0].toNat : Int) == 32) = true := by rw [z3]; rfl
        clear hr hget hlen
        go_enter Tryz.func68, Tryz.ntmps68
        go_wp2
        go_ret
        exact ⟨rfl, Below.refl _ _⟩
      · have b0 : ((s[0].toNat : Int) == 32) = false := by
          rw [beq_eq_false_iff_ne]
          intro e
          exact z3 (UInt8.toNat_inj.1 (by have : (32 : UInt8).toNat = 32 := rfl; omega))
        have hidx : ((s.size : Int) - 1).toNat = s.size - 1 := by omega
        by_cases z4 : s[s.size - 1] = 32
        · have hrr : r = false := by rw [← hr]; exact nameB_edge s (Or.inr (Or.inr (Or.inr (by rw [hget _ kl]; exact z4))))
          subst hrr
          have b1 : ((s[s.size - 1].toNat : Int) == 32) = true := by rw [z4]; rfl
          clear hr hget hlen
          go_enter Tryz.func68, Tryz.ntmps68
          go_wp2
          go_ret
          exact ⟨rfl, Below.refl _ _⟩
        · have b1 : ((s[s.size - 1].toNat : Int) == 32) = false := by
            rw [beq_eq_false_iff_ne]
            intro e
            exact z4 (UInt8.toNat_inj.1 (by have : (32 : UInt8).toNat = 32 := rfl; omega))
          have hall : nameB s = s.data.toList.all plainC := nameB_bytes s (by omega) (by omega) (by rw [hget 0 k0]; exact z3) (by rw [hget _ kl]; exact z4)
          have hbad : ∀ j (h : j < s.size), plainC s[j] = false → r = false := fun j h hp => by
            rw [← hr, hall]
            have hj : j < s.data.toList.length := by rw [hlen]; exact h
            exact all_false hj hp
          have hgood : (∀ j (h : j < s.size), plainC s[j] = true) → r = true := fun h => by
            rw [← hr, hall, List.all_eq_true]
            intro x hx
            obtain ⟨j, hj, rfl⟩ := List.mem_iff_getElem.1 hx
            exact h j (by rw [← hlen]; exact hj)
          have HBAD := Lib.hid hbad
          have HGOOD := Lib.hid hgood
          clear hr hget hlen hall hbad hgood
          go_enter Tryz.func68, Tryz.ntmps68
          go_wp2
          go_loopw [3] (fun i wr => ∃ k : Nat, i = .int .i64 k ∧ k ≤ s.size ∧ wr = w ∧ Hid (∀ j (h : j < s.size), j < k → plainC s[j] = true)) (fun i _ => s.size - (RowKit.intOf i).toNat)
          case atStart => exact ⟨0, rfl, Nat.zero_le _, rfl, Lib.hid (fun j _ h => by omega)⟩
          case round =>
            obtain ⟨k, rfl, hk, rfl, HG⟩ := hrel
            by_cases hlt : k < s.size
            · have hlt' : (k : Int) < (s.size : Int) := by omega
              by_cases p1 : s[k].toNat < 32
              · have p1' : (s[k].toNat : Int) < 32 := by omega
                have hrr : r = false := HBAD.out k hlt (by unfold plainC; exact decide_eq_false (by omega))
                subst hrr
                go_wp2
                go_ret
                exact ⟨rfl, Below.refl _ _⟩
              · have p1' : (32 : Int) ≤ (s[k].toNat : Int) := by omega
                by_cases p2 : 126 < s[k].toNat
                · have p2' : (126 : Int) < (s[k].toNat : Int) := by omega
                  have hrr : r = false := HBAD.out k hlt (by unfold plainC; exact decide_eq_false (by omega))
                  subst hrr
                  go_wp2
                  go_ret
                  exact ⟨rfl, Below.refl _ _⟩
                · have p2' : (s[k].toNat : Int) ≤ 126 := by omega
                  have HG2 : Hid (∀ j (h : j < s.size), j < k + 1 → plainC s[j] = true) := Lib.hid (fun j h hj => by
                    by_cases e : j = k
                    · subst e
                      unfold plainC
                      exact decide_eq_true (by omega)
                    · exact HG.out j h (by omega))
                  go_wp2
                  go_roundw
                  case rel => exact ⟨k + 1, by first | rfl | go_num, by omega, by first | rfl | trivial, HG2⟩
                  case measure => simp [RowKit.intOf]; omega
            · obtain rfl : k = s.size := by omega
              have hrr : r = true := HGOOD.out (fun j h => HG.out j h h)
              subst hrr
              have hge : (s.size : Int) ≤ (s.size : Int) := by omega
              go_wp2
              go_ret
              exact ⟨rfl, Below.refl _ _⟩

end Go.Proofs.YtdgckdmgplpobaaGreatDoor

/- Contracts of the classification's reference at a list of one heading with the code 1: whether it is valid hangs on its name alone. -/
namespace Go.Proofs.YtdgckdmgplpobaaGreatDoor
open Go.RowKit Go.Lib Go.Proofs

set_option maxRecDepth 100000 in
set_option maxHeartbeats 2000000 in
theorem rclGood_one (w : World) : Calls Tryz.prog 67 #[.string ⟨#[49]⟩] w fun e w' => e = .returned (.bool true) ∧ w' = w := by
  have b0 : ∀ h : 0 < (⟨#[49]⟩ : ByteArray).size, ((⟨#[49]⟩ : ByteArray)[0]'h).toNat = 49 := fun _ => rfl
  go_enter Tryz.func67, Tryz.ntmps67
  go_wp2
  go_loopw [3, 4, 5] (fun d p i wr => wr = w ∧ p = .int .i64 1 ∧ ((d = .int .i64 0 ∧ i = .int .i64 0) ∨ (d = .int .i64 1 ∧ i = .int .i64 1))) (fun _ _ i _ => 1 - (RowKit.intOf i).toNat)
  case atStart => exact ⟨rfl, rfl, Or.inl ⟨rfl, rfl⟩⟩
  case round =>
    obtain ⟨rfl, rfl, ⟨rfl, rfl⟩ | ⟨rfl, rfl⟩⟩ := hrel
    · go_wp2
      go_roundw
      case rel => exact ⟨by first | rfl | trivial, by first | rfl | trivial, Or.inr ⟨by first | rfl | go_num, by first | rfl | go_num⟩⟩
      case measure => simp [RowKit.intOf]
    · go_wp2
      go_ret
      exact ⟨rfl, rfl⟩

set_option maxRecDepth 100000 in
set_option maxHeartbeats 2000000 in
theorem rclParent_one (w : World) : Calls Tryz.prog 69 #[.string ⟨#[49]⟩] w fun e w' => e = .returned (.string ⟨#[]⟩) ∧ w' = w := by
  have HG := Lib.hid (rclGood_one w)
  go_enter Tryz.func69, Tryz.ntmps69
  go_wp2_with fail
  refine (HG.out).mono ?_
  rintro e w1 ⟨rfl, rfl⟩
  go_wp2
  go_loopw [3] (fun i wr => wr = w1 ∧ (i = .int .i64 0 ∨ i = .int .i64 (-1))) (fun i _ => (RowKit.intOf i + 1).toNat)
  case atStart => exact ⟨rfl, Or.inl rfl⟩
  case round =>
    obtain ⟨rfl, rfl | rfl⟩ := hrel
    · go_wp2
      go_roundw
      case rel => exact ⟨by first | rfl | trivial, Or.inr (by first | rfl | go_num)⟩
      case measure => simp [RowKit.intOf]
    · go_wp2
      go_ret
      exact ⟨rfl, rfl⟩

structure OneHead (w : World) (g : Nat) (s : ByteArray) (W : World) : Prop where
  code : W.cell? ⟨g, 0, none⟩ = some (.string ⟨#[49]⟩)
  name : W.cell? ⟨g, 1, none⟩ = some (.string s)
  lt : g < W.heap.size
  old : Below w.heap.size w W
theorem OneHead.below {w : World} {g : Nat} {s : ByteArray} {A B : World} (h : OneHead w g s A) (hb : Below A.heap.size A B) : OneHead w g s B :=
  ⟨(hb.cell (p := ⟨g, 0, none⟩) h.lt).trans h.code, (hb.cell (p := ⟨g, 1, none⟩) h.lt).trans h.name, Nat.lt_of_lt_of_le h.lt hb.size, h.old.trans (hb.mono h.old.size)⟩

set_option maxRecDepth 100000 in
set_option maxHeartbeats 4000000 in
theorem rclfirst_one (s : ByteArray) (g cap : Nat) (hcap : 1 ≤ cap) (w : World) (hs : s.size ≤ 1000000) (h : OneHead w g s w) :
    Calls Tryz.prog 52 #[.slice (some ⟨g, 0, none⟩) 1 cap] w fun e w' => (∃ n : Int, e = .returned (.tuple #[.int .i64 n, .int .i64 (if nameB s = true then 0 else 4)])) ∧ Below w.heap.size w w' := by
  have HG := Lib.hid (fun W => rclGood_one W)
  have HN := Lib.hid (fun W => rclname_any s W hs)
  have HP := Lib.hid (fun W => rclParent_one W)
  have H0 := Lib.hid h
  clear h
  have hc1 : (1 : Int) ≤ (cap : Int) := by omega
  go_enter Tryz.func52, Tryz.ntmps52
  go_wp2
  go_loopw [11] (fun i wr => Hid (OneHead w g s wr) ∧ (i = .int .i64 0 ∨ (i = .int .i64 1 ∧ nameB s = true))) (fun i _ => 1 - (RowKit.intOf i).toNat)
  case atStart => exact ⟨H0, Or.inl rfl⟩
  case round =>
    obtain ⟨HI, rfl | ⟨rfl, hnm⟩⟩ := hrel
    · have c0 := HI.out.code
      have c1 := HI.out.name
      have hlt := HI.out.lt
      generalize hnn : nameB s = nb at HN ⊢
      have HI2 := Lib.hid (HI.out.below (below_alloc wr (.cells #[.string ⟨#[49]⟩, .string s] 53)))
      clear HI
      cases nb with
      | false =>
        go_wp2_with fail
        refine (HG.out _).mono ?_
        rintro e w1 ⟨rfl, rfl⟩
        go_wp2_with fail
        refine (HN.out _).mono ?_
        rintro e w2 ⟨rfl, hb2⟩
        have HB := Lib.hid (HI2.out.below hb2)
        clear hb2
        go_wp2
        all_goals (go_ret2; exact ⟨⟨_, rfl⟩, HB.out.old⟩)
      | true =>
        go_wp2_with fail
        refine (HG.out _).mono ?_
        rintro e w1 ⟨rfl, rfl⟩
        go_wp2_with fail
        refine (HN.out _).mono ?_
        rintro e w2 ⟨rfl, hb2⟩
        have hw2 : w2.cell? ⟨wr.heap.size, 0, none⟩ = some (.string ⟨#[49]⟩) := (hb2.cell (p := ⟨wr.heap.size, 0, none⟩) (by simp)).trans (by rw [cell_of_row _ _ _ _ _ _ (heap_alloc_new wr _)]; rfl)
        have HB := Lib.hid (HI2.out.below hb2)
        clear hb2 HI2
        go_wp2_with fail
        go_quiet (fail)
        have hbd : ∀ q, OneHead w g s (w2.drewN q) := fun q => ⟨HB.out.code, HB.out.name, HB.out.lt, ⟨HB.out.old.os, HB.out.old.tape, HB.out.old.output, HB.out.old.size, HB.out.old.block⟩⟩
        have HBD := Lib.hid hbd
        clear hbd
        go_wp2_with fail
        refine (HP.out _).mono ?_
        rintro e w3 ⟨rfl, rfl⟩
        go_wp2_with fail
        go_roundw
        case rel => exact ⟨Lib.hid (HBD.out _), Or.inr ⟨by first | rfl | go_num, by first | exact hnn | trivial⟩⟩
        case measure => simp [RowKit.intOf]
    · have hold := HI.out.old
      have HO := Lib.hid hold
      rw [hnm]
      clear hold HI
      go_wp2
      go_ret2
      exact ⟨⟨_, rfl⟩, HO.out⟩

set_option maxHeartbeats 1000000 in
theorem rclValid_one (s : ByteArray) (g cap : Nat) (hcap : 1 ≤ cap) (w : World) (hs : s.size ≤ 1000000) (h : OneHead w g s w) :
    Calls Tryz.prog 32 #[.slice (some ⟨g, 0, none⟩) 1 cap] w fun e w' => e = .returned (.int .i64 (if nameB s = true then 0 else 4)) ∧ Below w.heap.size w w' := by
  have HF := Lib.hid (rclfirst_one s g cap hcap w hs h)
  generalize (if nameB s = true then (0 : Int) else 4) = x at *
  clear h
  go_enter Tryz.func32, Tryz.ntmps32
  go_wp2_with fail
  refine (HF.out).mono ?_
  rintro e w1 ⟨⟨n, rfl⟩, hb⟩
  go_wp2
  go_ret
  exact ⟨rfl, hb⟩

end Go.Proofs.YtdgckdmgplpobaaGreatDoor
