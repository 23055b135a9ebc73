/- Contracts of calendar.Parse: it returns the day with a text, and ErrSyntax for any other text; for texts of up to 10^6 bytes, in a world in which the package variables that Go's library reads are as the program's text lays them. -/
import Derived.Test.YtgnjboebnobjcaaDoorRCal
import Derived.Test.YtgnjboebnobjcaaDoorDateM
import Derived.Test.YtgnjboebnobjcaaDoorShelfA
namespace Go.Proofs.YtgnjboebnobjcaaDoor
open Go.RowKit Go.Lib Go.Proofs

/-- What Go's library reads of its variables stands as the program's text lays it. -/
structure Lay (w : World) : Prop where
  pow : TabIs Tryd.prog w "internal/strconv.uint64pow10" .u64 pow10Tab
  syn : ∃ tp p, w.var? Tryd.prog "strconv.ErrSyntax" = some #[.iface tp p]
  ran : ∃ tp p, w.var? Tryd.prog "strconv.ErrRange" = some #[.iface tp p]
  max : ∃ m, w.cell? ⟨3, 0, none⟩ = some (.int .i64 m)

theorem cell_lt {w : World} {b o : Nat} {v : Value} (h : w.cell? ⟨b, o, none⟩ = some v) : b < w.heap.size := by
  by_cases hlt : b < w.heap.size
  · exact hlt
  · rw [World.cell?, show w.heap[b]? = none from Array.getElem?_eq_none (by omega)] at h
    cases h

/-- The blocks of the four variables. -/
def layBlocks : List Nat := [0, 1, 2, 3]

theorem Lay.keep {w w' : World} (h : Lay w) (hk : ∀ g ∈ layBlocks, w'.heap[g]? = w.heap[g]?) : Lay w' := by
  have g0 : Tryd.prog.globalNamed "internal/strconv.uint64pow10" = some 0 := by kernel_rfl
  have g1 : Tryd.prog.globalNamed "strconv.ErrSyntax" = some 1 := by kernel_rfl
  have g2 : Tryd.prog.globalNamed "strconv.ErrRange" = some 2 := by kernel_rfl
  obtain ⟨h1, ⟨t2, p2, h2⟩, ⟨t3, p3, h3⟩, ⟨m, h4⟩⟩ := h
  refine ⟨var_below h1 fun g hg => ?_, ⟨t2, p2, var_below h2 fun g hg => ?_⟩, ⟨t3, p3, var_below h3 fun g hg => ?_⟩, m, ?_⟩
  · obtain rfl := Option.some.inj (g0.symm.trans hg); exact hk _ (by simp [layBlocks])
  · obtain rfl := Option.some.inj (g1.symm.trans hg); exact hk _ (by simp [layBlocks])
  · obtain rfl := Option.some.inj (g2.symm.trans hg); exact hk _ (by simp [layBlocks])
  · rw [World.cell?_of_block (w := w) (hk _ (by simp [layBlocks]))]; exact h4

theorem Lay.lt {w : World} (h : Lay w) : ∀ g ∈ layBlocks, g < w.heap.size := by
  have g0 : Tryd.prog.globalNamed "internal/strconv.uint64pow10" = some 0 := by kernel_rfl
  have g1 : Tryd.prog.globalNamed "strconv.ErrSyntax" = some 1 := by kernel_rfl
  have g2 : Tryd.prog.globalNamed "strconv.ErrRange" = some 2 := by kernel_rfl
  obtain ⟨h1, ⟨t2, p2, h2⟩, ⟨t3, p3, h3⟩, ⟨m, h4⟩⟩ := h
  intro g hg
  simp only [layBlocks, List.mem_cons, List.mem_nil_iff, or_false] at hg
  rcases hg with rfl | rfl | rfl | rfl
  · exact var_lt h1 g0
  · exact var_lt h2 g1
  · exact var_lt h3 g2
  · exact cell_lt h4

theorem Lay.below {w w' : World} {B : Nat} (h : Lay w) (hb : Below B w w') (hB : w.heap.size ≤ B) : Lay w' := h.keep fun g hg => hb.block g (by have := h.lt g hg; omega)

/-- Atoi where the text is a number. -/
theorem atoi_ok (s : ByteArray) (v : Int) (w : World) (hs : s.size ≤ 1000000) (h : atoiAll s.data.toList = .ok v) :
    Calls Tryd.prog 43 #[.string s] w fun e w' => e = .returned (.tuple #[.int .i64 v, .nilIface]) ∧ Below w.heap.size w w' :=
  (Tryd.strconv_Atoi_ok s (by omega) v h w).mono fun e w' ⟨h1, h2⟩ => ⟨h1, by
    rcases h2 with rfl | ⟨t, rfl⟩
    · exact Below.refl _ _
    · exact bytesWorld_below _ _ _⟩

/-- What Atoi hands back where the text is no number. -/
def AtoiBad (w : World) (e : Ending) (w' : World) : Prop := ∃ (v : Int) (T : TypeId) (N : Nat), e = .returned (.tuple #[.int .i64 v, .iface T (.pointer (some ⟨N, 0, none⟩))]) ∧ Below w.heap.size w w'

theorem atoi_bad (s : ByteArray) (w : World) (hL : Lay w) (hs : s.size ≤ 1000000) (h : ∀ v, atoiAll s.data.toList ≠ .ok v) : Calls Tryd.prog 43 #[.string s] w (AtoiBad w) := by
  by_cases h2 : atoiAll s.data.toList = .range
  · obtain ⟨tp, p, hp⟩ := hL.ran
    exact (Tryd.strconv_Atoi_range_var s (by omega) h2 tp p w hp).mono fun e w' ⟨N, h1, _, _, h4⟩ => ⟨_, _, N, h1, h4⟩
  · obtain ⟨tp, p, hp⟩ := hL.syn
    exact (Tryd.strconv_Atoi_syntax_var s (by omega) h h2 tp p w hp).mono fun e w' ⟨N, h1, _, _, h4⟩ => ⟨_, _, N, h1, h4⟩

/-- The parts of a text. -/
def partsB (s : ByteArray) : List ByteArray := splitB ⟨#[45]⟩ 0 (min 4 (s.size + 1) - 1) s

theorem splitN_any (s : ByteArray) (w : World) (hL : Lay w) (hs : s.size ≤ 1000000) :
    Calls Tryd.prog 42 #[.string s, .string ⟨#[45]⟩, .int .i64 4] w fun e w' => e = .returned (.slice (some ⟨w.heap.size, 0, none⟩) (partsB s).length (min 4 (s.size + 1))) ∧ w' = w.alloc (.cells (cellsOf (partsB s) (min 4 (s.size + 1))) 9) := by
  obtain ⟨m, hm⟩ := hL.max
  exact Tryd.strings_SplitN s ⟨#[45]⟩ 4 m w (by omega) hm (by decide) (by omega) (by omega)

theorem parts_sizes (s : ByteArray) : ∀ p ∈ partsB s, p.size ≤ s.size := by
  have : ∀ (k : Nat) (s : ByteArray), ∀ p ∈ splitB ⟨#[45]⟩ 0 k s, p.size ≤ s.size := by
    intro k
    induction k with
    | zero => intro s p hp; rw [splitB_zero] at hp; simp at hp; subst hp; exact Nat.le_refl _
    | succ k ih =>
      intro s p hp
      rw [splitB] at hp
      split at hp
      · simp at hp; subst hp; exact Nat.le_refl _
      · rcases List.mem_cons.1 hp with rfl | hp
        · rw [ByteArray.size_extract]; omega
        · have := ih _ p hp
          rw [ByteArray.size_extract] at this; omega
  exact this _ s

/-- The numbers of a date, and whether they are there. -/
def ReadPost (w : World) (r : Option (Int × Int × Int)) (e : Ending) (w' : World) : Prop :=
  (match r with
    | some (a, b, c) => e = .returned (.tuple #[.agg #[.int .i64 a, .int .i64 b, .int .i64 c], .bool true])
    | none => e = .returned (.tuple #[.agg #[.int .i64 0, .int .i64 0, .int .i64 0], .bool false])) ∧ Below w.heap.size w w'

set_option maxRecDepth 100000 in
set_option maxHeartbeats 2000000 in
theorem read_len (s : ByteArray) (w : World) (hL : Lay w) (hs : s.size ≤ 1000000) (hn : (partsB s).length ≠ 3) : Calls Tryd.prog 40 #[.string s] w (ReadPost w none) := by
  obtain ⟨n, hln⟩ : ∃ n, n = (partsB s).length := ⟨_, rfl⟩
  have hne : ((n : Int) != 3) = true := by rw [bne_iff_ne]; omega
  have hL' : ∀ o o', Lay ((w.alloc o).alloc o') := fun o o' => hL.below (((Below.refl _ _).alloc (Nat.le_refl _) o).alloc (by simp) o') (Nat.le_refl _)
  have HS := fun o o' => splitN_any s _ (hL' o o') hs
  rw [← hln] at HS
  have HSP := Lib.hid HS
  clear hL' HS hln hn hL
  go_enter Tryd.func40, Tryd.ntmps40
  go_wp2_with fail
  refine (HSP.out _ _).mono ?_
  rintro e w' ⟨rfl, rfl⟩
  go_wp2_with fail
  refine bodyPost_ret (v := .tuple #[.agg #[.int .i64 0, .int .i64 0, .int .i64 0], .bool false]) (by simp [results, Tryd.results40, go_sem]) rfl ⟨rfl, ?_⟩
  exact (((Below.refl _ _).alloc (Nat.le_refl _) _).alloc (by simp) _).alloc (by simp; omega) _

/-- Three parts as cells. -/
theorem cells_three (p0 p1 p2 : ByteArray) (N : Nat) : (cellsOf [p0, p1, p2] N)[0]? = some (.string p0) ∧ (cellsOf [p0, p1, p2] N)[1]? = some (.string p1) ∧ (cellsOf [p0, p1, p2] N)[2]? = some (.string p2) := by
  unfold cellsOf
  simp

theorem bcell {W w1 : World} (hb : Below W.heap.size W w1) : (∀ b o, b < W.heap.size → w1.cell? ⟨b, o, none⟩ = W.cell? ⟨b, o, none⟩) ∧ (∀ b o, b < W.heap.size → w1.frozen? ⟨b, o, none⟩ = W.frozen? ⟨b, o, none⟩) :=
  ⟨fun b o h => hb.cell (p := ⟨b, o, none⟩) h, fun b o h => hb.frozen (p := ⟨b, o, none⟩) h⟩

/-- The world of readDate's loop: three parts at P, the numbers so far at D, and the result's place R. -/
structure DInv (w : World) (R D P : Nat) (p0 p1 p2 : ByteArray) (a b c : Int) (W : World) : Prop where
  r : W.heap[R]? = some (.cells #[.int .i64 0, .int .i64 0, .int .i64 0] 49 (0, 0))
  d : W.heap[D]? = some (.cells #[.int .i64 a, .int .i64 b, .int .i64 c] 49 (0, 0))
  q0 : W.cell? ⟨P, 0, none⟩ = some (.string p0)
  q1 : W.cell? ⟨P, 1, none⟩ = some (.string p1)
  q2 : W.cell? ⟨P, 2, none⟩ = some (.string p2)
  lay : Lay W
  old : Below w.heap.size w W
  hR : w.heap.size ≤ R
  hD : R < D
  hP : D < P
  hW : P < W.heap.size
  top : ∀ g ∈ layBlocks, g < w.heap.size

theorem DInv.below {w : World} {R D P : Nat} {p0 p1 p2 : ByteArray} {a b c : Int} {W W' : World} (h : DInv w R D P p0 p1 p2 a b c W) (hb : Below W.heap.size W W') : DInv w R D P p0 p1 p2 a b c W' := by
  have hD := h.hD
  have hP := h.hP
  have hW := h.hW
  exact ⟨by rw [hb.block R (by omega)]; exact h.r, by rw [hb.block D (by omega)]; exact h.d, by rw [hb.cell (by exact hW)]; exact h.q0, by rw [hb.cell (by exact hW)]; exact h.q1, by rw [hb.cell (by exact hW)]; exact h.q2, h.lay.below hb (Nat.le_refl _), h.old.trans (hb.mono h.old.size), h.hR, hD, hP, Nat.lt_of_lt_of_le hW hb.size, h.top⟩

theorem DInv.new (w : World) (p0 p1 p2 : ByteArray) (N : Nat) (hL : Lay w) :
    DInv w w.heap.size (w.heap.size + 1) (w.heap.size + 1 + 1) p0 p1 p2 0 0 0 (((w.alloc (.cells #[.int .i64 0, .int .i64 0, .int .i64 0] 49)).alloc (.cells #[.int .i64 0, .int .i64 0, .int .i64 0] 49)).alloc (.cells (cellsOf [p0, p1, p2] N) 9)) := by
  obtain ⟨c0, c1, c2⟩ := cells_three p0 p1 p2 N
  have hb : Below w.heap.size w (((w.alloc (.cells #[.int .i64 0, .int .i64 0, .int .i64 0] 49)).alloc (.cells #[.int .i64 0, .int .i64 0, .int .i64 0] 49)).alloc (.cells (cellsOf [p0, p1, p2] N) 9)) :=
    (((Below.refl _ _).alloc (Nat.le_refl _) _).alloc (by simp) _).alloc (by simp; omega) _
  have hh : ∀ (u : World) (o : Obj), (u.alloc o).heap[u.heap.size]? = some o := fun u o => heap_alloc_new u o
  have hs1 : (w.alloc (.cells #[.int .i64 0, .int .i64 0, .int .i64 0] 49)).heap.size = w.heap.size + 1 := by simp
  have hs2 : ((w.alloc (.cells #[.int .i64 0, .int .i64 0, .int .i64 0] 49)).alloc (.cells #[.int .i64 0, .int .i64 0, .int .i64 0] 49)).heap.size = w.heap.size + 1 + 1 := by simp
  have hq : ∀ j v, (cellsOf [p0, p1, p2] N)[j]? = some v → (((w.alloc (.cells #[.int .i64 0, .int .i64 0, .int .i64 0] 49)).alloc (.cells #[.int .i64 0, .int .i64 0, .int .i64 0] 49)).alloc (.cells (cellsOf [p0, p1, p2] N) 9)).cell? ⟨w.heap.size + 1 + 1, j, none⟩ = some v := fun j v hv => by
    rw [cell_of_row _ _ j (cellsOf [p0, p1, p2] N) 9 (0, 0) (by rw [← hs2]; exact hh _ _)]
    exact hv
  refine ⟨?_, ?_, hq 0 _ c0, hq 1 _ c1, hq 2 _ c2, hL.below hb (Nat.le_refl _), hb, Nat.le_refl _, by omega, by omega, by simp, hL.lt⟩
  · rw [Below.heap_alloc _ _ _ (by simp; omega), Below.heap_alloc _ _ _ (by simp)]; exact hh _ _
  · rw [Below.heap_alloc _ _ _ (by simp)]
    have := hh (w.alloc (.cells #[.int .i64 0, .int .i64 0, .int .i64 0] 49)) (.cells #[.int .i64 0, .int .i64 0, .int .i64 0] 49)
    rwa [hs1] at this

/-- A number is laid into the date. -/
theorem DInv.put {w : World} {R D P : Nat} {p0 p1 p2 : ByteArray} {a b c a' b' c' : Int} {W : World} (h : DInv w R D P p0 p1 p2 a b c W) (j : Nat) (x : Int) (hx : (#[Value.int .i64 a, .int .i64 b, .int .i64 c] : Array Value).setIfInBounds j (.int .i64 x) = #[.int .i64 a', .int .i64 b', .int .i64 c']) :
    DInv w R D P p0 p1 p2 a' b' c' (W.setCell ⟨D, j, none⟩ (.int .i64 x)) := by
  have hD := h.hD
  have hP := h.hP
  have hW := h.hW
  have hR := h.hR
  have hother : ∀ k, k ≠ D → (W.setCell ⟨D, j, none⟩ (.int .i64 x)).heap[k]? = W.heap[k]? := fun k hk => Below.heap_setCell W _ _ k hk
  refine ⟨by rw [hother R (by omega)]; exact h.r, ?_, by rw [World.cell?_of_block (w := W) (hother P (by omega))]; exact h.q0, by rw [World.cell?_of_block (w := W) (hother P (by omega))]; exact h.q1, by rw [World.cell?_of_block (w := W) (hother P (by omega))]; exact h.q2, ?_, h.old.setCell (by show w.heap.size ≤ D; omega) _, hR, hD, hP, by rw [World.size_setCell]; exact hW, h.top⟩
  · rw [heap_setCell_same W D j _ _ _ h.d, hx]
  · exact h.lay.keep fun g hg => hother g (fun e => by
      have h0 := h.top g hg
      omega)

theorem DInv.cells {w : World} {R D P : Nat} {p0 p1 p2 : ByteArray} {a b c : Int} {W : World} (h : DInv w R D P p0 p1 p2 a b c W) :
    (W.cell? ⟨D, 0, none⟩ = some (.int .i64 a) ∧ W.cell? ⟨D, 1, none⟩ = some (.int .i64 b) ∧ W.cell? ⟨D, 2, none⟩ = some (.int .i64 c)) ∧
    (W.frozen? ⟨D, 0, none⟩ = false ∧ W.frozen? ⟨D, 1, none⟩ = false ∧ W.frozen? ⟨D, 2, none⟩ = false) ∧
    (W.cell? ⟨R, 0, none⟩ = some (.int .i64 0) ∧ W.cell? ⟨R, 1, none⟩ = some (.int .i64 0) ∧ W.cell? ⟨R, 2, none⟩ = some (.int .i64 0)) ∧
    (W.frozen? ⟨R, 0, none⟩ = false ∧ W.frozen? ⟨R, 1, none⟩ = false ∧ W.frozen? ⟨R, 2, none⟩ = false) := by
  have hd := h.d
  have hr := h.r
  simp [World.cell?, World.frozen?, hd, hr]

/-- The date is laid into the result's place. -/
theorem DInv.result {w : World} {R D P : Nat} {p0 p1 p2 : ByteArray} {a b c : Int} {W : World} (h : DInv w R D P p0 p1 p2 a b c W) (x y z : Int) {F : World} (hF : F = ((W.setCell ⟨R, 0, none⟩ (.int .i64 x)).setCell ⟨R, 1, none⟩ (.int .i64 y)).setCell ⟨R, 2, none⟩ (.int .i64 z)) :
    F.cell? ⟨R, 0, none⟩ = some (.int .i64 x) ∧ F.cell? ⟨R, 1, none⟩ = some (.int .i64 y) ∧ F.cell? ⟨R, 2, none⟩ = some (.int .i64 z) ∧ Below w.heap.size w F := by
  have h1 := heap_setCell_same W R 0 _ _ (.int .i64 x) h.r
  have h2 := heap_setCell_same _ R 1 _ _ (.int .i64 y) h1
  have h3 := heap_setCell_same _ R 2 _ _ (.int .i64 z) h2
  rw [← hF] at h3
  refine ⟨by rw [cell_of_row _ _ _ _ _ _ h3]; rfl, by rw [cell_of_row _ _ _ _ _ _ h3]; rfl, by rw [cell_of_row _ _ _ _ _ _ h3]; rfl, ?_⟩
  subst hF
  exact ((h.old.setCell h.hR _).setCell h.hR _).setCell h.hR _

set_option maxRecDepth 100000 in
set_option maxHeartbeats 4000000 in
theorem read_three (s : ByteArray) (w : World) (hL : Lay w) (hs : s.size ≤ 1000000) (p0 p1 p2 : ByteArray) (hp : partsB s = [p0, p1, p2]) (a b c : Int) (h0 : atoiAll p0.data.toList = .ok a) (h1 : atoiAll p1.data.toList = .ok b) (h2 : atoiAll p2.data.toList = .ok c) : Calls Tryd.prog 40 #[.string s] w (ReadPost w (some (a, b, c))) := by
  have z := parts_sizes s
  rw [hp] at z
  have z0 : p0.size ≤ 1000000 := by have := z p0 (by simp); omega
  have z1 : p1.size ≤ 1000000 := by have := z p1 (by simp); omega
  have z2 : p2.size ≤ 1000000 := by have := z p2 (by simp); omega
  have hL' : ∀ o o', Lay ((w.alloc o).alloc o') := fun o o' => hL.below (((Below.refl _ _).alloc (Nat.le_refl _) o).alloc (by simp) o') (Nat.le_refl _)
  have HS := fun o o' => splitN_any s _ (hL' o o') hs
  rw [hp] at HS
  have HSP := Lib.hid HS
  have HINV := Lib.hid (DInv.new w p0 p1 p2 (min 4 (s.size + 1)) hL)
  have A0 := Lib.hid (fun W => atoi_ok p0 a W z0 h0)
  have A1 := Lib.hid (fun W => atoi_ok p1 b W z1 h1)
  have A2 := Lib.hid (fun W => atoi_ok p2 c W z2 h2)
  clear hL' HS hp hL z z0 z1 z2 h0 h1 h2
  go_enter Tryd.func40, Tryd.ntmps40
  go_wp2_with fail
  refine (HSP.out _ _).mono ?_
  rintro e W0 ⟨rfl, hW0⟩
  have I0 : DInv w w.heap.size (w.heap.size + 1) (w.heap.size + 1 + 1) p0 p1 p2 0 0 0 W0 := by rw [hW0]; exact HINV.out
  have HI0 := Lib.hid I0
  clear hW0 I0
  go_wp2_with fail
  refine wp_loop_rounds 4 ?_
  rw [rounds_succ]
  have q0 := HI0.out.q0
  go_wp2_with fail
  refine (A0.out _).mono ?_
  rintro e W1 ⟨rfl, hb1⟩
  have HI1 := Lib.hid (HI0.out.below hb1)
  clear hb1 q0
  obtain ⟨⟨c0, c1, c2⟩, ⟨f0, f1, f2⟩, _⟩ := HI1.out.cells
  go_wp2_with fail
  have I1 := HI1.out.put (a' := a) (b' := 0) (c' := 0) 0 a rfl
  generalize (W1.setCell ⟨w.heap.size + 1, 0, none⟩ (.int .i64 a)) = V1 at I1 ⊢
  have HJ1 := Lib.hid I1
  clear I1 HI1 HI0 c0 c1 c2 f0 f1 f2
  rw [rounds_succ]
  have q1 := HJ1.out.q1
  go_wp2_with fail
  refine (A1.out _).mono ?_
  rintro e W2 ⟨rfl, hb2⟩
  have HI2 := Lib.hid (HJ1.out.below hb2)
  clear hb2 q1
  obtain ⟨⟨c0, c1, c2⟩, ⟨f0, f1, f2⟩, _⟩ := HI2.out.cells
  go_wp2_with fail
  have I2 := HI2.out.put (a' := a) (b' := b) (c' := 0) 1 b rfl
  generalize (W2.setCell ⟨w.heap.size + 1, 1, none⟩ (.int .i64 b)) = V2 at I2 ⊢
  have HJ2 := Lib.hid I2
  clear I2 HI2 HJ1 c0 c1 c2 f0 f1 f2
  rw [rounds_succ]
  have q2 := HJ2.out.q2
  go_wp2_with fail
  refine (A2.out _).mono ?_
  rintro e W3 ⟨rfl, hb3⟩
  have HI3 := Lib.hid (HJ2.out.below hb3)
  clear hb3 q2
  obtain ⟨⟨c0, c1, c2⟩, ⟨f0, f1, f2⟩, _⟩ := HI3.out.cells
  go_wp2_with fail
  have I3 := HI3.out.put (a' := a) (b' := b) (c' := c) 2 c rfl
  generalize (W3.setCell ⟨w.heap.size + 1, 2, none⟩ (.int .i64 c)) = V3 at I3 ⊢
  have HJ3 := Lib.hid I3
  clear I3 HI3 HJ2 c0 c1 c2 f0 f1 f2
  rw [rounds_succ]
  obtain ⟨⟨c0, c1, c2⟩, ⟨f0, f1, f2⟩, ⟨r0, r1, r2⟩, ⟨e0, e1, e2⟩⟩ := HJ3.out.cells
  go_wp2_with fail
  have HR := fun F hF => HJ3.out.result a b c (F := F) hF
  generalize ((V3.setCell ⟨w.heap.size, 0, none⟩ (.int .i64 a)).setCell ⟨w.heap.size, 1, none⟩ (.int .i64 b)).setCell ⟨w.heap.size, 2, none⟩ (.int .i64 c) = F at HR ⊢
  obtain ⟨g0, g1, g2, hb⟩ := HR F rfl
  refine bodyPost_ret (v := .tuple #[.agg #[.int .i64 a, .int .i64 b, .int .i64 c], .bool true]) (by simp [results, Tryd.results40, go_sem, g0, g1, g2]) rfl ⟨rfl, hb⟩

set_option maxRecDepth 100000 in
set_option maxHeartbeats 4000000 in
theorem read_bad0 (s : ByteArray) (w : World) (hL : Lay w) (hs : s.size ≤ 1000000) (p0 p1 p2 : ByteArray) (hp : partsB s = [p0, p1, p2])  (hbad : ∀ v, atoiAll p0.data.toList ≠ .ok v) : Calls Tryd.prog 40 #[.string s] w (ReadPost w none) := by
  have z := parts_sizes s
  rw [hp] at z
  have z0 : p0.size ≤ 1000000 := by have := z p0 (by simp); omega
  have z1 : p1.size ≤ 1000000 := by have := z p1 (by simp); omega
  have z2 : p2.size ≤ 1000000 := by have := z p2 (by simp); omega
  have hL' : ∀ o o', Lay ((w.alloc o).alloc o') := fun o o' => hL.below (((Below.refl _ _).alloc (Nat.le_refl _) o).alloc (by simp) o') (Nat.le_refl _)
  have HS := fun o o' => splitN_any s _ (hL' o o') hs
  rw [hp] at HS
  have HSP := Lib.hid HS
  have HINV := Lib.hid (DInv.new w p0 p1 p2 (min 4 (s.size + 1)) hL)
  have A0 := Lib.hid (fun W hL => atoi_bad p0 W hL z0 hbad)
  clear hL' HS hp hL z z0 z1 z2 hbad
  go_enter Tryd.func40, Tryd.ntmps40
  go_wp2_with fail
  refine (HSP.out _ _).mono ?_
  rintro e W0 ⟨rfl, hW0⟩
  have I0 : DInv w w.heap.size (w.heap.size + 1) (w.heap.size + 1 + 1) p0 p1 p2 0 0 0 W0 := by rw [hW0]; exact HINV.out
  have HI0 := Lib.hid I0
  clear hW0 I0
  go_wp2_with fail
  refine wp_loop_rounds 4 ?_
  rw [rounds_succ]
  have q0 := HI0.out.q0
  go_wp2_with fail
  refine (A0.out _ HI0.out.lay).mono ?_
  rintro e W1 ⟨v, T, N, rfl, hb1⟩
  have HI1 := Lib.hid (HI0.out.below hb1)
  clear hb1 q0
  obtain ⟨_, _, ⟨r0, r1, r2⟩, ⟨e0, e1, e2⟩⟩ := HI1.out.cells
  go_wp2_with fail
  have HR := fun F hF => HI1.out.result 0 0 0 (F := F) hF
  generalize ((W1.setCell ⟨w.heap.size, 0, none⟩ (.int .i64 0)).setCell ⟨w.heap.size, 1, none⟩ (.int .i64 0)).setCell ⟨w.heap.size, 2, none⟩ (.int .i64 0) = F at HR ⊢
  obtain ⟨g0, g1, g2, hb⟩ := HR F rfl
  refine bodyPost_ret (v := .tuple #[.agg #[.int .i64 0, .int .i64 0, .int .i64 0], .bool false]) (by simp [results, Tryd.results40, go_sem, g0, g1, g2]) rfl ⟨rfl, hb⟩

set_option maxRecDepth 100000 in
set_option maxHeartbeats 4000000 in
theorem read_bad1 (s : ByteArray) (w : World) (hL : Lay w) (hs : s.size ≤ 1000000) (p0 p1 p2 : ByteArray) (hp : partsB s = [p0, p1, p2]) (a : Int) (h0 : atoiAll p0.data.toList = .ok a) (hbad : ∀ v, atoiAll p1.data.toList ≠ .ok v) : Calls Tryd.prog 40 #[.string s] w (ReadPost w none) := by
  have z := parts_sizes s
  rw [hp] at z
  have z0 : p0.size ≤ 1000000 := by have := z p0 (by simp); omega
  have z1 : p1.size ≤ 1000000 := by have := z p1 (by simp); omega
  have z2 : p2.size ≤ 1000000 := by have := z p2 (by simp); omega
  have hL' : ∀ o o', Lay ((w.alloc o).alloc o') := fun o o' => hL.below (((Below.refl _ _).alloc (Nat.le_refl _) o).alloc (by simp) o') (Nat.le_refl _)
  have HS := fun o o' => splitN_any s _ (hL' o o') hs
  rw [hp] at HS
  have HSP := Lib.hid HS
  have HINV := Lib.hid (DInv.new w p0 p1 p2 (min 4 (s.size + 1)) hL)
  have A0 := Lib.hid (fun W => atoi_ok p0 a W z0 h0)
  have A1 := Lib.hid (fun W hL => atoi_bad p1 W hL z1 hbad)
  clear hL' HS hp hL z z0 z1 z2 h0 hbad
  go_enter Tryd.func40, Tryd.ntmps40
  go_wp2_with fail
  refine (HSP.out _ _).mono ?_
  rintro e W0 ⟨rfl, hW0⟩
  have I0 : DInv w w.heap.size (w.heap.size + 1) (w.heap.size + 1 + 1) p0 p1 p2 0 0 0 W0 := by rw [hW0]; exact HINV.out
  have HI0 := Lib.hid I0
  clear hW0 I0
  go_wp2_with fail
  refine wp_loop_rounds 4 ?_
  rw [rounds_succ]
  have q0 := HI0.out.q0
  go_wp2_with fail
  refine (A0.out _).mono ?_
  rintro e W1 ⟨rfl, hb1⟩
  have HI1 := Lib.hid (HI0.out.below hb1)
  clear hb1 q0
  obtain ⟨⟨c0, c1, c2⟩, ⟨f0, f1, f2⟩, _⟩ := HI1.out.cells
  go_wp2_with fail
  have I1 := HI1.out.put (a' := a) (b' := 0) (c' := 0) 0 a rfl
  generalize (W1.setCell ⟨w.heap.size + 1, 0, none⟩ (.int .i64 a)) = V1 at I1 ⊢
  have HJ1 := Lib.hid I1
  clear I1 HI1 HI0 c0 c1 c2 f0 f1 f2
  rw [rounds_succ]
  have q1 := HJ1.out.q1
  go_wp2_with fail
  refine (A1.out _ HJ1.out.lay).mono ?_
  rintro e W2 ⟨v, T, N, rfl, hb2⟩
  have HI2 := Lib.hid (HJ1.out.below hb2)
  clear hb2 q1
  obtain ⟨_, _, ⟨r0, r1, r2⟩, ⟨e0, e1, e2⟩⟩ := HI2.out.cells
  go_wp2_with fail
  have HR := fun F hF => HI2.out.result 0 0 0 (F := F) hF
  generalize ((W2.setCell ⟨w.heap.size, 0, none⟩ (.int .i64 0)).setCell ⟨w.heap.size, 1, none⟩ (.int .i64 0)).setCell ⟨w.heap.size, 2, none⟩ (.int .i64 0) = F at HR ⊢
  obtain ⟨g0, g1, g2, hb⟩ := HR F rfl
  refine bodyPost_ret (v := .tuple #[.agg #[.int .i64 0, .int .i64 0, .int .i64 0], .bool false]) (by simp [results, Tryd.results40, go_sem, g0, g1, g2]) rfl ⟨rfl, hb⟩

set_option maxRecDepth 100000 in
set_option maxHeartbeats 4000000 in
theorem read_bad2 (s : ByteArray) (w : World) (hL : Lay w) (hs : s.size ≤ 1000000) (p0 p1 p2 : ByteArray) (hp : partsB s = [p0, p1, p2]) (a b : Int) (h0 : atoiAll p0.data.toList = .ok a) (h1 : atoiAll p1.data.toList = .ok b) (hbad : ∀ v, atoiAll p2.data.toList ≠ .ok v) : Calls Tryd.prog 40 #[.string s] w (ReadPost w none) := by
  have z := parts_sizes s
  rw [hp] at z
  have z0 : p0.size ≤ 1000000 := by have := z p0 (by simp); omega
  have z1 : p1.size ≤ 1000000 := by have := z p1 (by simp); omega
  have z2 : p2.size ≤ 1000000 := by have := z p2 (by simp); omega
  have hL' : ∀ o o', Lay ((w.alloc o).alloc o') := fun o o' => hL.below (((Below.refl _ _).alloc (Nat.le_refl _) o).alloc (by simp) o') (Nat.le_refl _)
  have HS := fun o o' => splitN_any s _ (hL' o o') hs
  rw [hp] at HS
  have HSP := Lib.hid HS
  have HINV := Lib.hid (DInv.new w p0 p1 p2 (min 4 (s.size + 1)) hL)
  have A0 := Lib.hid (fun W => atoi_ok p0 a W z0 h0)
  have A1 := Lib.hid (fun W => atoi_ok p1 b W z1 h1)
  have A2 := Lib.hid (fun W hL => atoi_bad p2 W hL z2 hbad)
  clear hL' HS hp hL z z0 z1 z2 h0 h1 hbad
  go_enter Tryd.func40, Tryd.ntmps40
  go_wp2_with fail
  refine (HSP.out _ _).mono ?_
  rintro e W0 ⟨rfl, hW0⟩
  have I0 : DInv w w.heap.size (w.heap.size + 1) (w.heap.size + 1 + 1) p0 p1 p2 0 0 0 W0 := by rw [hW0]; exact HINV.out
  have HI0 := Lib.hid I0
  clear hW0 I0
  go_wp2_with fail
  refine wp_loop_rounds 4 ?_
  rw [rounds_succ]
  have q0 := HI0.out.q0
  go_wp2_with fail
  refine (A0.out _).mono ?_
  rintro e W1 ⟨rfl, hb1⟩
  have HI1 := Lib.hid (HI0.out.below hb1)
  clear hb1 q0
  obtain ⟨⟨c0, c1, c2⟩, ⟨f0, f1, f2⟩, _⟩ := HI1.out.cells
  go_wp2_with fail
  have I1 := HI1.out.put (a' := a) (b' := 0) (c' := 0) 0 a rfl
  generalize (W1.setCell ⟨w.heap.size + 1, 0, none⟩ (.int .i64 a)) = V1 at I1 ⊢
  have HJ1 := Lib.hid I1
  clear I1 HI1 HI0 c0 c1 c2 f0 f1 f2
  rw [rounds_succ]
  have q1 := HJ1.out.q1
  go_wp2_with fail
  refine (A1.out _).mono ?_
  rintro e W2 ⟨rfl, hb2⟩
  have HI2 := Lib.hid (HJ1.out.below hb2)
  clear hb2 q1
  obtain ⟨⟨c0, c1, c2⟩, ⟨f0, f1, f2⟩, _⟩ := HI2.out.cells
  go_wp2_with fail
  have I2 := HI2.out.put (a' := a) (b' := b) (c' := 0) 1 b rfl
  generalize (W2.setCell ⟨w.heap.size + 1, 1, none⟩ (.int .i64 b)) = V2 at I2 ⊢
  have HJ2 := Lib.hid I2
  clear I2 HI2 HJ1 c0 c1 c2 f0 f1 f2
  rw [rounds_succ]
  have q2 := HJ2.out.q2
  go_wp2_with fail
  refine (A2.out _ HJ2.out.lay).mono ?_
  rintro e W3 ⟨v, T, N, rfl, hb3⟩
  have HI3 := Lib.hid (HJ2.out.below hb3)
  clear hb3 q2
  obtain ⟨_, _, ⟨r0, r1, r2⟩, ⟨e0, e1, e2⟩⟩ := HI3.out.cells
  go_wp2_with fail
  have HR := fun F hF => HI3.out.result 0 0 0 (F := F) hF
  generalize ((W3.setCell ⟨w.heap.size, 0, none⟩ (.int .i64 0)).setCell ⟨w.heap.size, 1, none⟩ (.int .i64 0)).setCell ⟨w.heap.size, 2, none⟩ (.int .i64 0) = F at HR ⊢
  obtain ⟨g0, g1, g2, hb⟩ := HR F rfl
  refine bodyPost_ret (v := .tuple #[.agg #[.int .i64 0, .int .i64 0, .int .i64 0], .bool false]) (by simp [results, Tryd.results40, go_sem, g0, g1, g2]) rfl ⟨rfl, hb⟩

/-- The numbers that a text's parts spell, if they are three. -/
def readI (s : ByteArray) : Option (Int × Int × Int) :=
  match (partsB s).map fun p => atoiAll p.data.toList with
  | [.ok a, .ok b, .ok c] => some (a, b, c)
  | _ => none

theorem creadDate_any (s : ByteArray) (w : World) (hL : Lay w) (hs : s.size ≤ 1000000) : Calls Tryd.prog 40 #[.string s] w (ReadPost w (readI s)) := by
  by_cases hn : (partsB s).length = 3
  · obtain ⟨p0, p1, p2, hp⟩ : ∃ p0 p1 p2, partsB s = [p0, p1, p2] := by
      match h : partsB s, hn with
      | [p0, p1, p2], _ => exact ⟨p0, p1, p2, rfl⟩
    have hr : readI s = match [atoiAll p0.data.toList, atoiAll p1.data.toList, atoiAll p2.data.toList] with
      | [.ok a, .ok b, .ok c] => some (a, b, c)
      | _ => none := by unfold readI; rw [hp]; rfl
    rw [hr]
    have dec : ∀ e : NumEnd Int, (∃ v, e = .ok v) ∨ ∀ v, e ≠ .ok v := fun e => by
      by_cases h : ∃ v, e = .ok v
      · exact Or.inl h
      · exact Or.inr fun v hv => h ⟨v, hv⟩
    have nope : ∀ (x y z : NumEnd Int), ((∀ v, x ≠ .ok v) ∨ (∀ v, y ≠ .ok v) ∨ (∀ v, z ≠ .ok v)) → (match [x, y, z] with
      | [.ok a, .ok b, .ok c] => some (a, b, c)
      | _ => none) = none := fun x y z h => by
      split
      · rename_i a b c he
        simp only [List.cons.injEq, and_true] at he
        obtain ⟨rfl, rfl, rfl⟩ := he
        rcases h with h | h | h
        · exact absurd rfl (h _)
        · exact absurd rfl (h _)
        · exact absurd rfl (h _)
      · rfl
    rcases dec (atoiAll p0.data.toList) with ⟨a, h0⟩ | h0
    · rcases dec (atoiAll p1.data.toList) with ⟨b, h1⟩ | h1
      · rcases dec (atoiAll p2.data.toList) with ⟨c, h2⟩ | h2
        · rw [h0, h1, h2]
          exact read_three s w hL hs p0 p1 p2 hp a b c h0 h1 h2
        · rw [nope _ _ _ (Or.inr (Or.inr h2))]
          exact read_bad2 s w hL hs p0 p1 p2 hp a b h0 h1 h2
      · rw [nope _ _ _ (Or.inr (Or.inl h1))]
        exact read_bad1 s w hL hs p0 p1 p2 hp a h0 h1
    · rw [nope _ _ _ (Or.inl h0)]
      exact read_bad0 s w hL hs p0 p1 p2 hp h0
  · have hr : readI s = none := by
      unfold readI
      split
      · rename_i a b c he
        have := congrArg List.length he
        simp at this
        exact absurd this hn
      · rfl
    rw [hr]
    exact read_len s w hL hs hn

/-- The numbers of a day's text. -/
theorem readI_day (d : Nat) (h : d ≤ 36000) : readI (dayText d) = some (((d / 360 : Nat) : Int), ((d % 360 / 30 + 1 : Nat) : Int), ((d % 30 + 1 : Nat) : Int)) := by
  have hsz : 3 ≤ (dayText d).size := by
    have : (dayText d).size = (dayText d).data.toList.length := size_eq _
    rw [this, dayText_list]
    simp [twoL]
  have hm : (partsB (dayText d)).map (fun p => p.data.toList) = [decDigits (d / 360), twoL (d % 360 / 30 + 1), twoL (d % 30 + 1)] := by
    unfold partsB
    rw [show min 4 ((dayText d).size + 1) - 1 = 3 by omega, splitB_data, dayText_list]
    exact split_three _ _ _ (no_minus (dec_digits _ (by omega))) (no_minus (two_digits _ (by omega))) (no_minus (two_digits _ (by omega)))
  have hm2 : (partsB (dayText d)).map (fun p => atoiAll p.data.toList) = [.ok ((d / 360 : Nat) : Int), .ok ((d % 360 / 30 + 1 : Nat) : Int), .ok ((d % 30 + 1 : Nat) : Int)] := by
    have := congrArg (List.map atoiAll) hm
    rw [List.map_map] at this
    simp only [List.map_cons, List.map_nil] at this
    rw [atoi_dec _ (by omega), atoi_twoL _ (by omega), atoi_twoL _ (by omega)] at this
    exact this
  unfold readI
  rw [hm2]

theorem cText_day (d : Nat) (w : World) (h : d ≤ 36000) (hi : ItoaAt w (d / 360)) :
    Calls Tryd.prog 22 #[.int .i64 (d : Int)] w fun e w' => e = .returned (.string (dayText d)) ∧ Below w.heap.size w w' :=
  cText_any d _ _ _ w h rfl rfl rfl hi
theorem rcText_day (d : Nat) (w : World) (h : d ≤ 36000) (hi : ItoaAt w (d / 360)) :
    Calls Tryd.prog 23 #[.int .i64 (d : Int)] w fun e w' => e = .returned (.string (dayText d)) ∧ Below w.heap.size w w' :=
  rcText_any d _ _ _ w h rfl rfl rfl hi

theorem Lay.itoa {w : World} (h : Lay w) (d : Nat) (hd : d ≤ 36000) : ItoaAt w (d / 360) := itoaAt_tab w _ (by omega) h.pow

/-- Parse's result: the day with this text, or ErrSyntax. -/
def ParseIs (s : ByteArray) (p q : Int) : Prop := (∃ d : Nat, d ≤ 36000 ∧ dayText d = s ∧ p = d ∧ q = 0) ∨ ((∀ d, d ≤ 36000 → dayText d ≠ s) ∧ p = 0 ∧ q = 4)

theorem ParseIs.hit {s : ByteArray} {p q : Int} (h : ParseIs s p q) {d : Nat} (hd : d ≤ 36000) (hs : dayText d = s) : p = d ∧ q = 0 := by
  rcases h with ⟨e, he, hs', h1, h2⟩ | ⟨h, _⟩
  · rw [dayText_inj hd he (hs.trans hs'.symm)]; exact ⟨h1, h2⟩
  · exact absurd hs (h d hd)
theorem parseIs_some (s : ByteArray) : ∃ p q, ParseIs s p q := by
  by_cases h : ∃ d : Nat, d ≤ 36000 ∧ dayText d = s
  · obtain ⟨d, h1, h2⟩ := h
    exact ⟨d, 0, Or.inl ⟨d, h1, h2, rfl, rfl⟩⟩
  · exact ⟨0, 4, Or.inr ⟨fun d h1 h2 => h ⟨d, h1, h2⟩, rfl, rfl⟩⟩

theorem dayI_cases (a b c : Int) : (∃ d : Nat, d ≤ 36000 ∧ dayI a b c = ((d : Int), 0)) ∨ dayI a b c = (0, 2) := by
  unfold dayI
  split
  · unfold checkedI
    split
    · rename_i h
      obtain ⟨h0, h1⟩ := dayB_true.1 h
      exact Or.inl ⟨(a * 360 + (b - 1) * 30 + c - 1).toNat, by omega, by rw [Int.toNat_of_nonneg h0]⟩
    · exact Or.inr rfl
  · exact Or.inr rfl

theorem dayI_day (d : Nat) (h : d ≤ 36000) : dayI ((d / 360 : Nat) : Int) ((d % 360 / 30 + 1 : Nat) : Int) ((d % 30 + 1 : Nat) : Int) = ((d : Int), 0) := by
  unfold dayI
  rw [if_pos (by rw [inB_true.2 ⟨by omega, by omega⟩, inB_true.2 ⟨by omega, by omega⟩, inB_true.2 ⟨by omega, by omega⟩]; rfl), show ((d / 360 : Nat) : Int) * 360 + (((d % 360 / 30 + 1 : Nat) : Int) - 1) * 30 + ((d % 30 + 1 : Nat) : Int) - 1 = (d : Int) by omega]
  exact checked_yes (dayB_true.2 ⟨by omega, by omega⟩)

set_option maxRecDepth 100000 in
set_option maxHeartbeats 2000000 in
theorem cParse_any (s : ByteArray) (p q : Int) (h : ParseIs s p q) (w : World) (hL : Lay w) (hs : s.size ≤ 1000000) :
    Calls Tryd.prog 28 #[.string s] w fun e w' => e = .returned (.tuple #[.int .i64 p, .int .i64 q]) ∧ Below w.heap.size w w' := by
  have hR := creadDate_any s w hL hs
  have HL := Lib.hid hL
  have H := Lib.hid h
  cases hr : readI s with
  | none =>
    rw [hr] at hR
    have hpq : p = 0 ∧ q = 4 := by
      rcases h with ⟨d, h1, h2, _⟩ | ⟨_, h1, h2⟩
      · rw [← h2, readI_day d h1] at hr; cases hr
      · exact ⟨h1, h2⟩
    obtain ⟨rfl, rfl⟩ := hpq
    have HR := Lib.hid hR
    clear hR hr h hL
    go_enter Tryd.func28, Tryd.ntmps28
    go_wp2_with fail
    refine (HR.out).mono ?_
    rintro e w1 ⟨rfl, hb⟩
    go_wp2_with fail
    go_ret2
    exact ⟨rfl, hb.alloc hb.size _⟩
  | some x =>
    obtain ⟨a, b, c⟩ := x
    rw [hr] at hR
    have HR := Lib.hid hR
    have hD := fun w => cDay_any a b c w
    rcases dayI_cases a b c with ⟨d, hd, hday⟩ | hday
    · rw [hday] at hD
      have HD := Lib.hid hD
      have HT := Lib.hid (fun w' (hb : Below w.heap.size w w') => cText_day d w' hd ((HL.out.below hb (Nat.le_refl _)).itoa d hd))
      by_cases he : dayText d = s
      · obtain ⟨rfl, rfl⟩ := H.out.hit hd he
        have hne := strEq_true he
        clear hR hr h hL hday hD he
        go_enter Tryd.func28, Tryd.ntmps28
        go_wp2_with fail
        refine (HR.out).mono ?_
        rintro e w1 ⟨rfl, hb⟩
        go_wp2_with fail
        refine (HD.out _).mono ?_
        rintro e w2 ⟨rfl, rfl⟩
        go_wp2_with fail
        refine (HT.out _ (hb.alloc hb.size _)).mono ?_
        rintro e w2 ⟨rfl, hb2⟩
        go_wp2_with fail
        go_ret2
        exact ⟨rfl, (hb.alloc hb.size _).trans (hb2.mono (hb.alloc hb.size _).size)⟩
      · have hpq : p = 0 ∧ q = 4 := by
          rcases h with ⟨d', h1, h2, _⟩ | ⟨_, h1, h2⟩
          · rw [← h2, readI_day d' h1] at hr
            simp only [Option.some.injEq, Prod.mk.injEq] at hr
            obtain ⟨rfl, rfl, rfl⟩ := hr
            rw [dayI_day d' h1] at hday
            simp only [Prod.mk.injEq, and_true] at hday
            have : d' = d := by omega
            exact absurd (this ▸ h2) he
          · exact ⟨h1, h2⟩
        obtain ⟨rfl, rfl⟩ := hpq
        have hne := strEq_false he
        clear hR hr h hL hday hD he
        go_enter Tryd.func28, Tryd.ntmps28
        go_wp2_with fail
        refine (HR.out).mono ?_
        rintro e w1 ⟨rfl, hb⟩
        go_wp2_with fail
        refine (HD.out _).mono ?_
        rintro e w2 ⟨rfl, rfl⟩
        go_wp2_with fail
        refine (HT.out _ (hb.alloc hb.size _)).mono ?_
        rintro e w2 ⟨rfl, hb2⟩
        go_wp2_with fail
        go_ret2
        exact ⟨rfl, (hb.alloc hb.size _).trans (hb2.mono (hb.alloc hb.size _).size)⟩
    · rw [hday] at hD
      have HD := Lib.hid hD
      have hpq : p = 0 ∧ q = 4 := by
        rcases h with ⟨d', h1, h2, _⟩ | ⟨_, h1, h2⟩
        · rw [← h2, readI_day d' h1] at hr
          simp only [Option.some.injEq, Prod.mk.injEq] at hr
          obtain ⟨rfl, rfl, rfl⟩ := hr
          rw [dayI_day d' h1] at hday
          simp only [Prod.mk.injEq] at hday
          exact absurd hday.2 (by omega)
        · exact ⟨h1, h2⟩
      obtain ⟨rfl, rfl⟩ := hpq
      clear hR hr h hL hday hD
      go_enter Tryd.func28, Tryd.ntmps28
      go_wp2_with fail
      refine (HR.out).mono ?_
      rintro e w1 ⟨rfl, hb⟩
      go_wp2_with fail
      refine (HD.out _).mono ?_
      rintro e w2 ⟨rfl, rfl⟩
      go_wp2_with fail
      go_ret2
      exact ⟨rfl, hb.alloc hb.size _⟩

end Go.Proofs.YtgnjboebnobjcaaDoor
