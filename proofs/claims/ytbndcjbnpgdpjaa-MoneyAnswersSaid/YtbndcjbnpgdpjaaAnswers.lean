/- The walk of MoneyAnswers: all functions of package money return what its reference returns; for every tape, every three numbers and every list. -/
import Derived.Test.YtbndcjbnpgdpjaaPartsAll
import Derived.Test.YtbndcjbnpgdpjaaMSums
import Derived.Deep.RegionHeld3
import Derived.Deep.DeepCutAuto
namespace Go.Proofs.Ytbndcjbnpgdpjaa
open Go.RowKit Go.Sort Go.Shelf Go.Lib Go.Proofs

/-- The tape stands, the edges lie in block E behind it, nothing older has turned. -/
def EInv (w : World) (tb E : Nat) (ed : List Int) (W : World) : Prop := TapeAt W tb ∧ tb < E ∧ E < W.heap.size ∧ Below tb w W ∧ ∀ j, j < ed.length → W.cell? ⟨E, j, none⟩ = some (.int .i64 (ed.getD j 0))

theorem EInv.grown {w W W' : World} {tb E : Nat} {ed : List Int} (h : EInv w tb E ed W) (ht : TapeAt W' tb) (hg : W.grownBy W' (some tb)) : EInv w tb E ed W' := by
  obtain ⟨h1, h2, h3, h4, h5⟩ := h
  refine ⟨ht, h2, Nat.lt_of_lt_of_le h3 hg.size, h4.grown hg (by omega) (by simp), fun j hj => ?_⟩
  rw [World.cell?_of_block (w := W) (hg.block E h3 (by simp; omega))]
  exact h5 j hj

theorem EInv.below {w W W' : World} {tb E : Nat} {ed : List Int} (h : EInv w tb E ed W) (hb : Below W.heap.size W W') : EInv w tb E ed W' := by
  obtain ⟨h1, h2, h3, h4, h5⟩ := h
  exact ⟨h1.below hb, h2, Nat.lt_of_lt_of_le h3 hb.size, h4.trans (hb.mono (by omega)), fun j hj => by rw [hb.cell (by exact h3)]; exact h5 j hj⟩

theorem EInv.drew {w W : World} {tb E : Nat} {ed : List Int} (h : EInv w tb E ed W) : EInv w tb E ed W.drew := h.below ((Below.refl _ _).drew)
theorem EInv.cell {w W : World} {tb E : Nat} {ed : List Int} (h : EInv w tb E ed W) : ∀ j, j < ed.length → W.cell? ⟨E, j, none⟩ = some (.int .i64 (ed.getD j 0)) := h.2.2.2.2

theorem EInv.both {w W : World} {tb E : Nat} {ed : List Int} (hl : ed.length = 15) (h : EInv w tb E ed W) : EInv w tb E ed W ∧ ∀ j, j < 15 → W.cell? ⟨E, j, none⟩ = some (.int .i64 (ed.getD j 0)) := ⟨h, fun j hj => h.cell j (by omega)⟩
theorem EInv.bothDrew {w W : World} {tb E : Nat} {ed : List Int} (hl : ed.length = 15) (h : EInv w tb E ed W) : EInv w tb E ed W.drew ∧ ∀ j, j < 15 → W.drew.cell? ⟨E, j, none⟩ = some (.int .i64 (ed.getD j 0)) := EInv.both hl h.drew

/-- What N hands back at the edges. -/
def EPost (w : World) (tb E : Nat) (ed : List Int) (e : Ending) (w' : World) : Prop := ∃ r : Nat, e = .returned (.int .i64 (r : Int)) ∧ r < 15 ∧ (0 : Int) ≤ (r : Int) ∧ (r : Int) < 15 ∧ EInv w tb E ed w'

theorem N_edge {w W : World} {tb E : Nat} {ed : List Int} (h : EInv w tb E ed W) : Calls Try.prog 9 #[.pointer (some ⟨tb, 0, none⟩), .int .i64 15] W (EPost w tb E ed) := by
  refine (N_any tb 15 W h.1 (by omega) (by omega)).mono fun e w' ⟨r, he, r0, r1, ht, hg⟩ => ?_
  exact ⟨r.toNat, by rw [he]; congr 1; congr 1; omega, by omega, by omega, by omega, h.grown ht hg⟩

theorem add_pair (x y : Int) : ∃ p q : Int, (∀ w, Calls Try.prog 10 #[.int .i64 x, .int .i64 y] w fun e w' => e = .returned (.tuple #[.int .i64 p, .int .i64 q]) ∧ w = w') ∧ (∀ w, Calls Try.prog 11 #[.int .i64 x, .int .i64 y] w fun e w' => e = .returned (.tuple #[.int .i64 p, .int .i64 q]) ∧ w = w') := ⟨_, _, Add_all x y, rAdd_all x y⟩
theorem perc_pair (x y : Int) : ∃ p q : Int, (∀ w, Calls Try.prog 12 #[.int .i64 x, .int .i64 y] w fun e w' => e = .returned (.tuple #[.int .i64 p, .int .i64 q]) ∧ w = w') ∧ (∀ w, Calls Try.prog 13 #[.int .i64 x, .int .i64 y] w fun e w' => e = .returned (.tuple #[.int .i64 p, .int .i64 q]) ∧ w = w') := ⟨_, _, Percent_all x y, rPercent_all x y⟩
theorem share_pair (x y z : Int) : ∃ p q : Int, (∀ w, Calls Try.prog 14 #[.int .i64 x, .int .i64 y, .int .i64 z] w fun e w' => e = .returned (.tuple #[.int .i64 p, .int .i64 q]) ∧ w = w') ∧ (∀ w, Calls Try.prog 15 #[.int .i64 x, .int .i64 y, .int .i64 z] w fun e w' => e = .returned (.tuple #[.int .i64 p, .int .i64 q]) ∧ w = w') := ⟨_, _, Share_all x y z, rShare_all x y z⟩
theorem valid_pair (x : Int) : ∃ b : Bool, (∀ w, Calls Try.prog 16 #[.int .i64 x] w fun e w' => e = .returned (.bool b) ∧ w = w') ∧ (∀ w, Calls Try.prog 17 #[.int .i64 x] w fun e w' => e = .returned (.bool b) ∧ w = w') := ⟨_, Valid_any x, rValid_any x⟩
theorem total_pair (x : Int) : ∃ b : Bool, (∀ w, Calls Try.prog 18 #[.int .i64 x] w fun e w' => e = .returned (.bool b) ∧ w = w') ∧ (∀ w, Calls Try.prog 19 #[.int .i64 x] w fun e w' => e = .returned (.bool b) ∧ w = w') := ⟨_, Total_any x, rTotal_any x⟩

/-- The tape and the three lists stand; block L lists them. -/
structure SInv (w : World) (tb L : Nat) (v0 v1 v2 : Value) (l0 l1 l2 : List Int) (W : World) : Prop where
  tape : TapeAt W tb
  old : Below tb w W
  lt : L < W.heap.size
  gt : tb < L
  r0 : RowAt w v0 l0
  tbw : tb = w.heap.size
  o1 : W.ownsRow (tb + 1) 3 1 v1 l1.length (cellsI l1)
  o2 : W.ownsRow (tb + 1) 3 1 v2 l2.length (cellsI l2)
  c0 : W.cell? ⟨L, 0, none⟩ = some v0
  c1 : W.cell? ⟨L, 1, none⟩ = some v1
  c2 : W.cell? ⟨L, 2, none⟩ = some v2

theorem SInv.below {w : World} {tb L : Nat} {v0 v1 v2 : Value} {l0 l1 l2 : List Int} {W W' : World} (h : SInv w tb L v0 v1 v2 l0 l1 l2 W) (hb : Below W.heap.size W W') : SInv w tb L v0 v1 v2 l0 l1 l2 W' :=
  ⟨h.tape.below hb, h.old.trans (hb.mono (by have := h.lt; have := h.gt; omega)), Nat.lt_of_lt_of_le h.lt hb.size, h.gt, h.r0, h.tbw, ownsRow_below h.o1 hb, ownsRow_below h.o2 hb,
    by rw [hb.cell (by exact h.lt)]; exact h.c0, by rw [hb.cell (by exact h.lt)]; exact h.c1, by rw [hb.cell (by exact h.lt)]; exact h.c2⟩

theorem SInv.grown {w : World} {tb L : Nat} {v0 v1 v2 : Value} {l0 l1 l2 : List Int} {W W' : World} (h : SInv w tb L v0 v1 v2 l0 l1 l2 W) (ht : TapeAt W' tb) (hg : W.grownBy W' (some tb)) : SInv w tb L v0 v1 v2 l0 l1 l2 W' := by
  have hc : ∀ j, W'.cell? ⟨L, j, none⟩ = W.cell? ⟨L, j, none⟩ := fun j => World.cell?_of_block (w := W) (hg.block L h.lt (by have := h.gt; simp; omega))
  exact ⟨ht, h.old.grown hg (by have := h.tape.lt; omega) (by simp), Nat.lt_of_lt_of_le h.lt hg.size, h.gt, h.r0, h.tbw, h.o1.kept hg (ownBlock_ne h.o1 tb (by omega)), h.o2.kept hg (ownBlock_ne h.o2 tb (by omega)),
    by rw [hc]; exact h.c0, by rw [hc]; exact h.c1, by rw [hc]; exact h.c2⟩

theorem SInv.pick {w : World} {tb L : Nat} {v0 v1 v2 : Value} {l0 l1 l2 : List Int} (h0 : l0.length ≤ 300) (h1 : l1.length ≤ 300) (h2 : l2.length ≤ 300) (k : Nat) (hk : k < 3) :
    ∃ (vs : Value) (ls : List Int), ls.length ≤ 300 ∧ ∀ W, SInv w tb L v0 v1 v2 l0 l1 l2 W → W.cell? ⟨L, k, none⟩ = some vs ∧ RowAt W vs ls := by
  rcases (show k = 0 ∨ k = 1 ∨ k = 2 by omega) with rfl | rfl | rfl
  · exact ⟨v0, l0, h0, fun W h => ⟨h.c0, h.r0.below (by have := h.old; rw [h.tbw] at this; exact this)⟩⟩
  · exact ⟨v1, l1, h1, fun W h => ⟨h.c1, RowAt.owns h.o1⟩⟩
  · exact ⟨v2, l2, h2, fun W h => ⟨h.c2, RowAt.owns h.o2⟩⟩

theorem sum_pair (v : Value) (l : List Int) (w : World) (h : RowAt w v l) (hl : l.length ≤ 300) : ∃ p q : Int, Calls Try.prog 21 #[v] w (fun e w' => e = .returned (.tuple #[.int .i64 p, .int .i64 q]) ∧ w = w') ∧ Calls Try.prog 22 #[v] w fun e w' => e = .returned (.tuple #[.int .i64 p, .int .i64 q]) ∧ w = w' :=
  ⟨_, _, Sum_any v l w h (by omega), rSum_any v l w h (by omega)⟩

/-- Block M holds three numbers. -/
def MInv (M : Nat) (W : World) : Prop := M < W.heap.size ∧ ∀ j, j < 3 → ∃ y : Int, W.cell? ⟨M, j, none⟩ = some (.int .i64 y)

theorem MInv.below {M : Nat} {W W' : World} (h : MInv M W) (hb : Below W.heap.size W W') : MInv M W' :=
  ⟨Nat.lt_of_lt_of_le h.1 hb.size, fun j hj => by rw [hb.cell (by exact h.1)]; exact h.2 j hj⟩

theorem MInv.new (W : World) (x y z : Int) (T : TypeId) : MInv W.heap.size (W.alloc (.cells #[.int .i64 x, .int .i64 y, .int .i64 z] T)) := by
  refine ⟨by simp, fun j hj => ?_⟩
  rcases (show j = 0 ∨ j = 1 ∨ j = 2 by omega) with rfl | rfl | rfl
  · exact ⟨x, by simp⟩
  · exact ⟨y, by simp⟩
  · exact ⟨z, by simp⟩

/-- What Parts returns, under names. -/
def PPost (out : List Int) (k : Int) (w : World) (e : Ending) (w' : World) : Prop := ∃ v, e = .returned (.tuple #[v, .int .i64 k]) ∧ RowAt w' v out ∧ Below w.heap.size w w'

theorem partsI_short (T : Int) (ws : List Int) (hl : ws.length ≤ 300) : (partsOut T ws).length ≤ 4611686018427387904 := by
  unfold partsOut
  split
  · simp [partsI]; omega
  · simp

theorem parts_pair (T : Int) (v : Value) (ws : List Int) (hl : ws.length ≤ 300) : ∃ (out : List Int) (k : Int), out.length ≤ 4611686018427387904 ∧ (∀ w, RowAt w v ws → Calls Try.prog 23 #[.int .i64 T, v] w (PPost out k w)) ∧ (∀ w, RowAt w v ws → Calls Try.prog 24 #[.int .i64 T, v] w (PPost out k w)) :=
  ⟨partsOut T ws, partsErr T ws, partsI_short T ws hl, fun w h => Parts_all T v ws w h (by omega), fun w h => rParts_all T v ws w h (by omega)⟩

theorem Ints_same (va vb : Value) (la : List Int) (w : World) (ha : RowAt w va la) (hb : RowAt w vb la) (hs : la.length ≤ 4611686018427387904) :
    Calls Try.prog 25 #[va, vb] w fun e w' => e = .returned (.bool true) ∧ Below w.heap.size w w' := by
  refine (Ints_any va vb la la w ha hb hs hs).mono fun e w' ⟨he, q, hq⟩ => ⟨by rw [he]; simp, ?_⟩
  subst hq
  exact below_drewN (Below.refl _ _) q

set_option maxRecDepth 100000 in
set_option maxHeartbeats 4000000 in
theorem answers_any (v vl : Value) (n : Nat) (a b c : Int) (l : List Int) (w : World) (hi : IntsAt w v n w.heap.size) (hn : n ≤ 9223372036854775807) (hr : RowAt w vl l) (hl : l.length ≤ 300) :
    Calls Try.prog 3 #[v, .int .i64 a, .int .i64 b, .int .i64 c, vl] w fun e w' => e = .returned (.bool true) ∧ Below w.heap.size w w' := by
  obtain ⟨i0, hi0, hz0, hz1, hz2⟩ := info_parts Try.infoInt
  have HNEW := Lib.hid (New_any v n w hi hn)
  obtain ⟨lo, lc, ln, hvl, hln⟩ : ∃ (lo : Option Addr) (lc ln : Nat), vl = .slice lo ln lc ∧ ln = l.length := by
    rcases hr with ⟨rfl, ao, cap, rfl⟩ | ⟨bb, o, cap, rfl, _⟩
    · exact ⟨ao, cap, 0, rfl, rfl⟩
    · exact ⟨_, cap, _, rfl, rfl⟩
  subst hvl
  have hln3 : ln ≤ 300 := by omega
  have HLN := Lib.hid hln
  have HR := Lib.hid hr
  clear hi hn hln hl hr
  go_enter Try.func3, Try.ntmps3
  go_wp2_with fail
  refine (HNEW.out).mono ?_
  rintro e w1 ⟨rfl, t1, b1⟩
  clear HNEW
  obtain ⟨tb, htb⟩ : ∃ tb, tb = w.heap.size := ⟨_, rfl⟩
  rw [← htb] at t1 b1 ⊢
  have HTB := Lib.hid htb
  clear htb
  go_wp2_with fail
  refine (N_any tb 1000000 _ t1 (by omega) (by omega)).mono ?_
  rintro e w2 ⟨r1, rfl, r10, r11, t2, g2⟩
  have b2 := b1.grown g2 (by have := t1.lt; omega) (by simp)
  clear t1 b1 g2
  obtain ⟨ed, hed⟩ : ∃ ed : List Int, ed = [a, b, c, 0, 1, 1000000000000, 1000000000001, -1, 1000000000000000, -1000000000000000, 999999999999999, r1, 1000000, 100, 101] := ⟨_, rfl⟩
  have hedl : ed.length = 15 := by rw [hed]; rfl
  go_wp2
  have hE : EInv w tb w2.heap.size ed (w2.alloc (.cells #[.int .i64 a, .int .i64 b, .int .i64 c, .int .i64 0, .int .i64 1, .int .i64 1000000000000, .int .i64 1000000000001, .int .i64 (-1), .int .i64 1000000000000000, .int .i64 (-1000000000000000), .int .i64 999999999999999, .int .i64 r1, .int .i64 1000000, .int .i64 100, .int .i64 101] 3)) := by
    refine ⟨t2.below (below_alloc _ _), t2.lt, by simp, b2.alloc (by have := t2.lt; omega) _, fun j hj => ?_⟩
    rw [cell_of_row _ _ j _ 3 (0, 0) (heap_alloc_new w2 _), ← Array.getElem?_toList]
    have h := cellsI_get ed j hj
    rw [hed] at h ⊢
    exact h
  generalize w2.alloc (.cells #[.int .i64 a, .int .i64 b, .int .i64 c, .int .i64 0, .int .i64 1, .int .i64 1000000000000, .int .i64 1000000000001, .int .i64 (-1), .int .i64 1000000000000000, .int .i64 (-1000000000000000), .int .i64 999999999999999, .int .i64 r1, .int .i64 1000000, .int .i64 100, .int .i64 101] 3) = W0 at hE ⊢
  generalize w2.heap.size = E at hE ⊢
  clear hed t2 b2 r10 r11
  have HEL := Lib.hid hedl
  go_loopw [13] (fun iv wr => ∃ i : Nat, i ≤ 12 ∧ iv = .int .i64 i ∧ EInv w tb E ed wr) (fun iv _ => 12 - (intOf iv).toNat)
  case atStart => exact ⟨0, by omega, rfl, hE⟩
  case round =>
    clear hE
    obtain ⟨i, hi12, rfl, hinv⟩ := hrel
    by_cases hlt : i < 12
    · have hE := hinv
      go_upto_region 8 with fail
      go_cut [14, 15, 16] (fun s14 s15 s16 wx => ∃ x y z : Int, s14 = .int .i64 x ∧ s15 = .int .i64 y ∧ s16 = .int .i64 z ∧ EInv w tb E ed wx)
      case first =>
        go_region_held3 (fun W => EInv w tb E ed W ∧ ∀ j, j < 15 → W.cell? ⟨E, j, none⟩ = some (.int .i64 (ed.getD j 0))) (first | exact EInv.both HEL.out (by assumption) | exact EInv.bothDrew HEL.out (by assumption))
          (first | (go_at_call 9; refine (N_edge (w := w) (tb := tb) (E := E) (ed := ed) (And.left (b := ∀ j, j < 15 → World.cell? _ ⟨E, j, none⟩ = some (.int .i64 (ed.getD j 0))) (by assumption))).mono ?_; rintro e w' ⟨r, rfl, hr15, hrz0, hrz1, hinv'⟩))
        go_wp2_with fail
        go_meet
        exact ⟨_, _, _, rfl, rfl, rfl, by assumption⟩
      case rest =>
        obtain ⟨x, y, z, rfl, rfl, rfl, hE'⟩ := hcut
        clear hE hinv
        obtain ⟨p1, q1, A1, A2⟩ := add_pair x y
        obtain ⟨p2, q2, A3, A4⟩ := perc_pair x y
        obtain ⟨p3, q3, A5, A6⟩ := share_pair x y z
        obtain ⟨b1, A7, A8⟩ := valid_pair x
        obtain ⟨b2, A9, A10⟩ := total_pair x
        have A1' := Lib.hid A1
        have A2' := Lib.hid A2
        have A3' := Lib.hid A3
        have A4' := Lib.hid A4
        have A5' := Lib.hid A5
        have A6' := Lib.hid A6
        have A7' := Lib.hid A7
        have A8' := Lib.hid A8
        have A9' := Lib.hid A9
        have A10' := Lib.hid A10
        clear A1 A2 A3 A4 A5 A6 A7 A8 A9 A10
        have HE := Lib.hid hE'
        clear hE'
        go_wp2_with fail
        refine (A1'.out _).mono ?_
        rintro e w' ⟨rfl, rfl⟩
        go_wp2_with fail
        refine (A2'.out _).mono ?_
        rintro e w' ⟨rfl, rfl⟩
        go_wp2_with fail
        refine (A3'.out _).mono ?_
        rintro e w' ⟨rfl, rfl⟩
        go_wp2_with fail
        refine (A4'.out _).mono ?_
        rintro e w' ⟨rfl, rfl⟩
        go_wp2_with fail
        refine (A5'.out _).mono ?_
        rintro e w' ⟨rfl, rfl⟩
        go_wp2_with fail
        refine (A6'.out _).mono ?_
        rintro e w' ⟨rfl, rfl⟩
        go_wp2_with fail
        refine (A7'.out _).mono ?_
        rintro e w' ⟨rfl, rfl⟩
        go_wp2_with fail
        refine (A8'.out _).mono ?_
        rintro e w' ⟨rfl, rfl⟩
        go_wp2_with fail
        refine (A9'.out _).mono ?_
        rintro e w' ⟨rfl, rfl⟩
        go_wp2_with fail
        refine (A10'.out _).mono ?_
        rintro e w' ⟨rfl, rfl⟩
        go_wp2_with fail
        go_roundw
        case rel => exact ⟨i + 1, by omega, by go_num, HE.out⟩
        case measure => simp [intOf]; omega
    · obtain ⟨t3, _, _, b3, _⟩ := hinv
      have b3' : Below tb w wr := b3
      have T3 := Lib.hid t3
      have B3 := Lib.hid b3'
      obtain rfl : i = 12 := by omega
      clear t3 b3 b3' HEL hlt hi12
      go_wp2_with fail
      refine (N_any tb 7 wr T3.out (by omega) (by omega)).mono ?_
      rintro e w4 ⟨r4, rfl, r40, r41, t4, g4⟩
      have h4 : LInv (fun _ => True) w tb [] (.slice none 0 0) w4 := ⟨by simp, World.ownsRow_nil _ _ _ _, t4, B3.out.grown g4 (by have := T3.out.lt; omega) (by simp)⟩
      obtain ⟨i4, rfl⟩ : ∃ i : Nat, r4 = i := ⟨r4.toNat, by omega⟩
      have hi4 : i4 ≤ 6 := by omega
      clear t4 g4 T3 B3 r40 r41
      go_wp2_with fail
      go_loopw [29, 31] (fun fv iv wr => ∃ (lf : List Int) (i : Nat), iv = .int .i64 i ∧ lf.length + i ≤ 6 ∧ LInv (fun _ => True) w tb lf fv wr) (fun _ iv _ => (intOf iv).toNat)
      case atStart => exact ⟨[], i4, rfl, by simpa using hi4, h4⟩
      case round =>
        clear h4 hi4
        obtain ⟨lf, i, rfl, hli, hinv⟩ := hrel
        by_cases hpos : 0 < i
        · go_wp2_with fail
          refine (N_any tb 1000000 _ hinv.tape (by omega) (by omega)).mono ?_
          rintro e w5 ⟨s5, rfl, s50, s51, t5, g5⟩
          have h5 := hinv.grown t5 g5
          clear hinv t5 g5
          go_wp2_with fail
          refine (Pick_new tb 6 [0, 1, 2, 1000, 1000000, s5] _ _ _ rfl h5.tape (by simp) (by simp) 6 rfl).mono ?_
          rintro e w6 ⟨x6, rfl, hx6, t6, g6⟩
          have h6 := (h5.alloc _).grown t6 g6
          have hown := h6.own
          have hlt := h6.tape.lt
          have H6 := Lib.hid h6
          clear h5 t6 g6 h6 hx6 s50 s51
          go_wp2_with (at_builtin; refine wpList_append_own _ rfl _ _ 22 rfl (tb + 1) 3 i0 (.int .i64 0) 1 8 Try.underlying22 hi0 hz0 hz1 hz2 rfl (by decide) _ _ _ rfl (hown.alloc _) ⟨w6.heap.size, 0, none⟩ 1 1 [.int .i64 x6] rfl rfl (one_new _ _ _ _ rfl) (one_int _ _) (by unfold maxLen; omega) (by omega) (by simp; omega) ?_; intro v' w7 hown7 hgr7 _)
          go_roundw
          case rel => exact ⟨lf ++ [x6], i - 1, by go_num, by simp; omega, H6.out.snoc trivial hown7 ((Below.refl _ _).alloc (Nat.le_refl _) _) hgr7⟩
          case measure => simp [intOf]; omega
        · obtain rfl : i = 0 := by omega
          have hlf : lf.length ≤ 6 := by omega
          have H := Lib.hid hinv
          clear hinv hli hpos
          go_wp2_with fail
          refine (Pick_new tb 3 [0, 200, 201] _ _ _ rfl H.out.tape (by simp) (by simp) 3 rfl).mono ?_
          rintro e w8 ⟨x8, rfl, hx8, t8, g8⟩
          have h8 := (H.out.alloc _).grown t8 g8
          have hx8' : 0 ≤ x8 ∧ x8 ≤ 201 := by
            simp only [List.mem_cons, List.not_mem_nil, or_false] at hx8
            rcases hx8 with rfl | rfl | rfl <;> omega
          obtain ⟨i8, rfl⟩ : ∃ i : Nat, x8 = i := ⟨x8.toNat, by omega⟩
          have hi8 : i8 ≤ 201 := by omega
          have H8 := Lib.hid h8
          clear H hx8 t8 g8 hx8' h8
          go_wp2_with fail
          go_loopw [30, 32] (fun mv iv wr => ∃ (lm : List Int) (i : Nat), iv = .int .i64 i ∧ lm.length + i ≤ 201 ∧ wr.ownsRow w8.heap.size 3 1 mv lm.length (cellsI lm) ∧ Below w8.heap.size w8 wr) (fun _ iv _ => (intOf iv).toNat)
          case atStart => exact ⟨[], i8, rfl, by simpa using hi8, World.ownsRow_nil _ _ _ _, Below.refl _ _⟩
          case round =>
            clear hi8
            obtain ⟨lm, i, rfl, hli, hmo, hb⟩ := hrel
            have hbs := hb.size
            by_cases hpos : 0 < i
            · have HB := Lib.hid hb
              have HMO := Lib.hid hmo
              clear hb
              go_wp2_with (at_builtin; refine wpList_append_own _ rfl _ _ 22 rfl w8.heap.size 3 i0 (.int .i64 0) 1 8 Try.underlying22 hi0 hz0 hz1 hz2 rfl (by decide) _ _ _ rfl (hmo.alloc _) ⟨wr.heap.size, 0, none⟩ 1 1 [.int .i64 1] rfl rfl (one_new _ _ _ _ rfl) (one_int _ _) (by unfold maxLen; omega) (by omega) (by simp; omega) ?_; intro v' w9 hown9 hgr9 _)
              go_roundw
              case rel => exact ⟨lm ++ [1], i - 1, by go_num, by simp; omega, by rw [cellsI_snoc] at hown9; simpa using hown9, (HB.out.alloc HB.out.size _).grown hgr9 (by have := HB.out.size; simp; omega) fun r hr => ownBlock_le HMO.out r hr⟩
              case measure => simp [intOf]; omega
            · obtain rfl : i = 0 := by omega
              have hlm : lm.length ≤ 201 := by omega
              have h9 := H8.out.below hb
              have hm9 := ownsRow_mono hmo (base' := tb + 1) (by have := H8.out.tape.lt; omega)
              have hs9 := h9.tape.lt
              obtain ⟨ao1, cp1, rfl, _, _⟩ := owns_gen h9.own
              obtain ⟨ao2, cp2, rfl, _, _⟩ := owns_gen hm9
              obtain ⟨n1, hn1⟩ : ∃ n, n = lf.length := ⟨_, rfl⟩
              obtain ⟨n2, hn2⟩ : ∃ n, n = lm.length := ⟨_, rfl⟩
              rw [← hn1, ← hn2]
              have HN1 := Lib.hid hn1
              have HN2 := Lib.hid hn2
              have H9 := Lib.hid h9
              have HM9 := Lib.hid hm9
              have HLF := Lib.hid hlf
              have HLM := Lib.hid hlm
              clear H8 h9 hm9 hmo hb hbs hli hpos hn1 hn2 hlf hlm
              obtain ⟨wo, rfl⟩ : ∃ wo : World, wo = wr := ⟨_, rfl⟩
              have S0 : ∀ T, SInv w tb wo.heap.size (.slice lo ln lc) (.slice ao1 n1 cp1) (.slice ao2 n2 cp2) l lf lm (wo.alloc (.cells #[.slice lo ln lc, .slice ao1 n1 cp1, .slice ao2 n2 cp2] T)) := fun T => by
                have ha := Below.alloc (Below.refl wo.heap.size wo) (Nat.le_refl _) (.cells #[.slice lo ln lc, .slice ao1 n1 cp1, .slice ao2 n2 cp2] T)
                refine ⟨H9.out.tape.below ha, H9.out.old.trans (ha.mono (by omega)), by simp, hs9, HR.out, HTB.out, ?_, ?_, by simp, by simp, by simp⟩
                · rw [HN1.out]; exact H9.out.own.alloc _
                · rw [HN2.out]; exact HM9.out.alloc _
              have HS0 := Lib.hid S0
              clear S0
              go_wp2_with fail
              go_loopw [191] (fun iv W => ∃ k : Nat, k ≤ 3 ∧ iv = .int .i64 k ∧ SInv w tb wo.heap.size (.slice lo ln lc) (.slice ao1 n1 cp1) (.slice ao2 n2 cp2) l lf lm W) (fun iv _ => 3 - (intOf iv).toNat)
              case atStart => exact ⟨0, by omega, rfl, HS0.out _⟩
              case round =>
                obtain ⟨k, hk, rfl, hS⟩ := hrel
                by_cases hlt : k < 3
                · obtain ⟨vs, ls, hls, hvs⟩ := SInv.pick (w := w) (tb := tb) (L := wo.heap.size) (v0 := .slice lo ln lc) (v1 := .slice ao1 n1 cp1) (v2 := .slice ao2 n2 cp2) (l0 := l) (l1 := lf) (l2 := lm) (by have := HLN.out; omega) (by have := HLF.out; omega) (by have := HLM.out; omega) k hlt
                  obtain ⟨hc, hrow⟩ := hvs _ hS
                  obtain ⟨p, q, c1, c2⟩ := sum_pair vs ls _ hrow hls
                  have C1 := Lib.hid c1
                  have C2 := Lib.hid c2
                  have HVS := Lib.hid hvs
                  have HSS := Lib.hid hS
                  clear c1 c2 hvs hrow hS
                  go_wp2_with fail
                  refine (C1.out).mono ?_
                  rintro e w' ⟨rfl, rfl⟩
                  go_wp2_with fail
                  refine (C2.out).mono ?_
                  rintro e w' ⟨rfl, rfl⟩
                  clear C1 C2 hc
                  go_wp2_with fail
                  refine (N_any tb 1000 _ HSS.out.tape (by omega) (by omega)).mono ?_
                  rintro e w10 ⟨r10, rfl, _, _, t10, g10⟩
                  have S10 := HSS.out.grown t10 g10
                  have HS10 := Lib.hid S10
                  clear HSS t10 g10 S10
                  go_wp2_with fail
                  have M0 := Lib.hid fun (x y z : Int) (T : TypeId) => MInv.new w10 x y z T
                  obtain ⟨M, hM⟩ : ∃ M, M = w10.heap.size := ⟨_, rfl⟩
                  have HM := Lib.hid hM
                  clear hM
                  go_loopw [210] (fun jv W => ∃ j : Nat, j ≤ 3 ∧ jv = .int .i64 j ∧ MInv w10.heap.size W ∧ SInv w tb wo.heap.size (.slice lo ln lc) (.slice ao1 n1 cp1) (.slice ao2 n2 cp2) l lf lm W) (fun jv _ => 3 - (intOf jv).toNat)
                  case atStart => exact ⟨0, by omega, rfl, M0.out _ _ _ _, HS10.out.below (below_alloc _ _)⟩
                  case round =>
                    clear M0 HS10
                    obtain ⟨j, hj, rfl, hM, hS⟩ := hrel
                    by_cases hlj : j < 3
                    · obtain ⟨y, hy⟩ := hM.2 j hlj
                      obtain ⟨out, kk, hout, B1, B2⟩ := parts_pair y vs ls hls
                      have hrow := (HVS.out _ hS).2
                      have HR1 := Lib.hid hrow
                      have HB1 := Lib.hid B1
                      have HB2 := Lib.hid B2
                      have HMM := Lib.hid hM
                      have HSS := Lib.hid hS
                      have HOUT := Lib.hid hout
                      clear B1 B2 hM hS hrow hout
                      go_wp2_with fail
                      refine (HB1.out _ HR1.out).mono ?_
                      rintro e w11 ⟨pv, rfl, hp11, hb11⟩
                      have HP11 := Lib.hid hp11
                      have HB11 := Lib.hid hb11
                      clear hp11 hb11
                      go_wp2_with fail
                      refine (HB2.out _ (HR1.out.below HB11.out)).mono ?_
                      rintro e w12 ⟨rv, rfl, hp12, hb12⟩
                      have HP12 := Lib.hid hp12
                      have HB12 := Lib.hid hb12
                      clear hp12 hb12
                      go_wp2_with fail
                      refine (Ints_same pv rv out _ (HP11.out.below HB12.out) HP12.out HOUT.out).mono ?_
                      rintro e w13 ⟨rfl, hb13⟩
                      have HB13 := Lib.hid hb13
                      clear hb13
                      go_wp2_with fail
                      go_roundw
                      case rel =>
                        have hb := (HB11.out.trans (HB12.out.mono HB11.out.size)).trans (HB13.out.mono (Nat.le_trans HB11.out.size HB12.out.size))
                        exact ⟨j + 1, by omega, by go_num, HMM.out.below hb, HSS.out.below hb⟩
                      case measure => simp [intOf]; omega
                    · obtain rfl : j = 3 := by omega
                      have HSS := Lib.hid hS
                      clear hM hS
                      go_wp2_with fail
                      go_roundw
                      case rel => ((repeat apply Exists.intro); exact ⟨⟨k + 1, by omega, by go_num, HSS.out⟩, rfl⟩)
                      case measure => simp [intOf]; omega
                · obtain rfl : k = 3 := by omega
                  have HSS := Lib.hid hS
                  have HAW := Lib.hid (awake_any wr)
                  clear hS
                  go_wp2_with fail
                  refine (HAW.out).mono ?_
                  rintro e w14 ⟨rfl, hb14⟩
                  have HB14 := Lib.hid hb14
                  clear hb14
                  go_wp2_with fail
                  go_ret
                  have h1 := HSS.out.old
                  rw [HTB.out] at h1
                  exact ⟨rfl, h1.trans (HB14.out.mono h1.size)⟩

end Go.Proofs.Ytbndcjbnpgdpjaa
