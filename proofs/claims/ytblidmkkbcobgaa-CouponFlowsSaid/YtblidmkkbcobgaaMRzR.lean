/- The source's Register: a right register, for every tape. -/
import Derived.Test.YtblidmkkbcobgaaMRzD
import Derived.Test.YtblidmkkbcobgaaMG9
import Derived.Test.YtblidmkkbcobgaaMRegInv
import Derived.Test.YtblidmkkbcobgaaMG6
import Derived.Deep.DeepCutAuto
set_option linter.unusedSimpArgs false
set_option linter.unusedVariables false
set_option linter.unusedSimpArgs false
set_option linter.unusedVariables false
namespace Go.Proofs.Ytblidmkkbcobgaa
open Go.RowKit Go.Lib Go.Proofs

/-- Block b holds no two numbers side by side. -/
def Lone (w : World) (b : Nat) : Prop := ∀ (o : Nat) (x y : Int), w.cell? ⟨b, o, none⟩ = some (.int .i64 x) → w.cell? ⟨b, o + 1, none⟩ = some (.int .i64 y) → False
theorem lone_reg {w : World} {b : Nat} {ra rb rc : Option Addr} {n0 n1 n2 c0 c1 c2 : Nat} {T : TypeId} (h : w.heap[b]? = some (.cells #[.slice ra n0 c0, .slice rb n1 c1, .slice rc n2 c2] T (0, 0))) : Lone w b := by
  intro o y z h0 h1
  rw [obj_cell h] at h0 h1
  match o with
  | 0 => simp at h0
  | 1 => simp at h0
  | 2 => simp at h0
  | o + 3 => simp at h0
theorem ListAt.keepL {α : Type} {f : α → List Value} {m : Nat} (hf : Fields f m) (hi : ∀ x, ∃ i j, (f x)[0]? = some (.int .i64 i) ∧ (f x)[1]? = some (.int .i64 j)) (h2 : 2 ≤ m) {w w' : World} {v : Value} {l : List α} (h : ListAt f m w v l) {b : Nat}
    (hs : Lone w b) (hg : w.grownBy w' (some b)) : ListAt f m w' v l := by
  obtain ⟨h1, ao, cap, rfl, hc, h3⟩ := h
  refine ⟨h1, ao, cap, rfl, hc, ?_⟩
  by_cases h0 : l.length = 0
  · exact Or.inl h0
  · rcases h3 with h3 | ⟨g, o, rfl, hlt, hcell⟩
    · exact absurd h3 h0
    · have hm := hf.pos
      have e0 := cellsL_get hf l 0 0 (by omega) (by omega)
      have e1 := cellsL_get hf l 0 1 (by omega) (by omega)
      obtain ⟨i, j, q0, q1⟩ := hi l[0]
      rw [Nat.zero_mul, Nat.zero_add, q0] at e0
      rw [Nat.zero_mul, Nat.zero_add, q1] at e1
      have hmul : 2 ≤ l.length * m := Nat.le_trans h2 (Nat.le_mul_of_pos_left m (by omega))
      have c0 := hcell 0 (by omega)
      have c1 := hcell 1 (by omega)
      rw [e0] at c0
      rw [e1] at c1
      have hne : g ≠ b := fun e => by subst e; exact hs _ _ _ c0 c1
      exact Or.inr ⟨g, o, rfl, Nat.lt_of_lt_of_le hlt hg.size, fun j hj => (World.cell?_of_block (hg.block g hlt fun e => by injection e with e; exact hne e)).trans (hcell j hj)⟩
theorem RegAt.keepL {w w' : World} {x y z : Value} {r : Reg} (h : RegAt w x y z r) {b : Nat} (hs : Lone w b) (hg : w.grownBy w' (some b)) : RegAt w' x y z r :=
  ⟨h.secs.keepL secF (fun s => ⟨s.id, s.unit, rfl, rfl⟩) (by decide) hs hg, h.hs.keepL hldF (fun s => ⟨s.sec, s.who, rfl, rfl⟩) (by decide) hs hg, h.ms.keepL mvF (fun s => ⟨s.num, s.day, rfl, rfl⟩) (by decide) hs hg⟩

/-- A security as the source makes it. -/
def SecG (s : Sec) : Prop := ∃ z r, SecOk s z r ∧ r ≤ 5 ∧ s.iss ≤ 100 ∧ s.rate ≤ 5000
theorem SecG.right {s : Sec} (h : SecG s) : SecR s := by obtain ⟨z, r, h, _⟩ := h; exact ⟨z, r, h⟩
/-- A register as the source makes it: right; its securities are 1, 2 .. -/
structure RegG (r : Reg) : Prop where
  ok : RegOk r
  gen : ∀ s ∈ r.secs, SecG s
  ids : ∀ (k : Nat) (h : k < r.secs.length), (r.secs[k]).id = (k : Int) + 1
/-- The register with one security more. -/
def AddedR (r : Reg) (id : Int) (x y z : Value) (W : World) : Prop := ∃ sq : Sec, (SecG sq ∧ sq.id = id) ∧ RegAt W x y z ⟨r.secs ++ [sq], r.hs, r.ms⟩
theorem AddedR.below {r : Reg} {id : Int} {x y z : Value} {A B : World} (h : AddedR r id x y z A) (hb : Below A.heap.size A B) : AddedR r id x y z B := by obtain ⟨q, h1, h2⟩ := h; exact ⟨q, h1, h2.below hb⟩
theorem AddedR.turn {r : Reg} {id : Int} {x y z : Value} {A B : World} {tb : Nat} (h : AddedR r id x y z A) (hs : SrcAt A tb) (hg : A.grownBy B (some tb)) : AddedR r id x y z B := by obtain ⟨q, h1, h2⟩ := h; exact ⟨q, h1, h2.turn hs hg⟩
theorem AddedR.keep {r : Reg} {id : Int} {x y z : Value} {A B : World} {b0 : Nat} (h : AddedR r id x y z A) (hl : Lone A b0) (hg : A.grownBy B (some b0)) : AddedR r id x y z B := by obtain ⟨q, h1, h2⟩ := h; exact ⟨q, h1, h2.keepL hl hg⟩
/-- Some register in a box. -/
def RBox (base b : Nat) (W : World) : Prop := base ≤ b ∧ ∃ (ra : Option Addr) (n0 c0 : Nat) (rb : Option Addr) (n1 c1 : Nat) (rc : Option Addr) (n2 c2 : Nat), W.heap[b]? = some (.cells #[.slice ra n0 c0, .slice rb n1 c1, .slice rc n2 c2] 29 (0, 0))
theorem RBox.below {base b : Nat} {A B : World} (h : RBox base b A) (hb : Below A.heap.size A B) : RBox base b B := by
  obtain ⟨h1, _, _, _, _, _, _, _, _, _, h2⟩ := h
  exact ⟨h1, _, _, _, _, _, _, _, _, _, obj_below h2 hb⟩
theorem RBox.turn {base b tb : Nat} {A B : World} (h : RBox base b A) (ht : tb < base) (hg : A.grownBy B (some tb)) : RBox base b B := by
  obtain ⟨h1, _, _, _, _, _, _, _, _, _, h2⟩ := h
  exact ⟨h1, _, _, _, _, _, _, _, _, _, obj_turn h2 hg (by omega)⟩
theorem RBox.put {base b b0 : Nat} {A : World} (h : RBox base b A) {x0 x1 x2 : Option Addr} {p0 p1 p2 q0 q1 q2 : Nat} {cs : Array Value} (h0 : A.heap[b0]? = some (.cells cs 29 (0, 0))) (hcs : cs.size = 3 := by rfl) : RBox base b (put3 A b0 (.slice x0 p0 q0) (.slice x1 p1 q1) (.slice x2 p2 q2)) := by
  obtain ⟨h1, _, _, _, _, _, _, _, _, _, h2⟩ := h
  by_cases hb : b = b0
  · subst hb
    exact ⟨h1, _, _, _, _, _, _, _, _, _, put3_at h0 hcs _ _ _⟩
  · exact ⟨h1, _, _, _, _, _, _, _, _, _, ((put3_grown A b0 _ _ _).block b (obj_lt h2) (by simp [hb])).trans h2⟩
/-- A world within the source's Register. -/
structure RgI (w0 : World) (tb bL : Nat) (x y z : Value) (r : Reg) (W : World) : Prop where
  si : SI w0 tb W
  box : W.heap[bL]? = some (.cells #[x, y, z] 29 (0, 0))
  reg : RegAt W x y z r
  ne : tb < bL
  out : w0.heap.size ≤ bL
theorem RgI.below {w0 : World} {tb bL : Nat} {x y z : Value} {r : Reg} {A B : World} (h : RgI w0 tb bL x y z r A) (hb : Below A.heap.size A B) : RgI w0 tb bL x y z r B := ⟨h.si.below hb, obj_below h.box hb, h.reg.below hb, h.ne, h.out⟩
theorem RgI.turn {w0 : World} {tb bL : Nat} {x y z : Value} {r : Reg} {A B : World} (h : RgI w0 tb bL x y z r A) (hs : SrcAt B tb) (hg : A.grownBy B (some tb)) : RgI w0 tb bL x y z r B := ⟨h.si.turn hs hg, obj_turn h.box hg (by have := h.ne; omega), h.reg.turn h.si.src hg, h.ne, h.out⟩
theorem RegG.snoc {r : Reg} (h : RegG r) (h0 : r.ms = []) (hl : r.secs.length < 20) {s : Sec} (hs : SecG s) (hid : s.id = (r.secs.length : Int) + 1) : RegG ⟨r.secs ++ [s], r.hs, r.ms⟩ := by
  refine ⟨⟨⟨fun t ht => ?_, ?_, by simp; omega⟩, h.ok.len, ?_⟩, fun t ht => ?_, fun k hk => ?_⟩
  · simp only [List.mem_append, List.mem_singleton] at ht
    rcases ht with ht | rfl
    · exact h.ok.secs.ok t ht
    · exact hs.right
  · refine List.pairwise_append.2 ⟨h.ok.secs.asc, List.pairwise_singleton _ _, fun a ha b hb => ?_⟩
    rw [List.mem_singleton] at hb
    subst hb
    obtain ⟨k, hk, rfl⟩ := List.getElem_of_mem ha
    rw [h.ids k hk, hid]; omega
  · have h1 := h.ok.run
    rw [h0] at h1 ⊢
    exact h1
  · simp only [List.mem_append, List.mem_singleton] at ht
    rcases ht with ht | rfl
    · exact h.gen t ht
    · exact hs
  · simp only [List.length_append, List.length_singleton] at hk
    by_cases hk2 : k < r.secs.length
    · simp only [List.getElem_append_left hk2]; exact h.ids k hk2
    · obtain rfl : k = r.secs.length := by omega
      simp [hid]
theorem Dealt.gen {r r' : Reg} {d d' : Int} (h : RegG r) (hd : Dealt r d r' d') : RegG r' := by
  refine ⟨hd.ok h.ok, ?_, ?_⟩
  · rw [hd.secs]; exact h.gen
  · intro k hk
    have e := hd.secs
    have hk2 : k < r.secs.length := by rw [← e]; exact hk
    have e2 : (r'.secs[k]) = r.secs[k] := by simp only [e]
    rw [e2]; exact h.ids k hk2
theorem Dealt.len {r r' : Reg} {d d' : Int} (hd : Dealt r d r' d') : r'.ms.length ≤ r.ms.length + 1 := by
  cases hd with
  | none => omega
  | move m _ hk hd h0 h1 he => simp [addM]

/-- What Register hands back. -/
def RegPost (w : World) (tb : Nat) (most : Int) (e : Ending) (w' : World) : Prop :=
  ∃ x y z r d, e = .returned (.tuple #[.agg #[x, y, z], .int .i64 d]) ∧ RegG r ∧ 1 ≤ r.secs.length ∧ r.secs.length ≤ 3 ∧ (r.ms.length : Int) ≤ most ∧ (0 ≤ d ∧ d ≤ 100 * most) ∧ RegAt w' x y z r ∧ SI w tb w'
theorem reg_post {w w' : World} {tb : Nat} {most : Int} {x y z : Value} {r : Reg} {d : Int} (h : RegG r) (h0 : 1 ≤ r.secs.length) (h1 : r.secs.length ≤ 3) (h2 : (r.ms.length : Int) ≤ most) (h3 : 0 ≤ d ∧ d ≤ 100 * most) (h4 : RegAt w' x y z r) (h5 : SI w tb w') : RegPost w tb most (.returned (.tuple #[.agg #[x, y, z], .int .i64 d])) w' := ⟨x, y, z, r, d, rfl, h, h0, h1, h2, h3, h4, h5⟩

set_option maxRecDepth 100000 in
set_option maxHeartbeats 16000000 in
theorem sRegister_any (tb : Nat) (most : Int) (w : World) (hs : SrcAt w tb) (hm : 0 ≤ most ∧ most ≤ 100) :
    Calls Try.prog 12 #[.pointer (some ⟨tb, 0, none⟩), .int .i64 most] w (RegPost w tb most) := by
  have hlt := hs.lt
  have HS0 := Lib.hid ((si_start hs).alloc (.cells #[.slice none 0 0, .slice none 0 0, .slice none 0 0] 29))
  obtain ⟨w0, hw0⟩ : ∃ w0, w0 = w.alloc (.cells #[.slice none 0 0, .slice none 0 0, .slice none 0 0] 29) := ⟨_, rfl⟩
  have HR0 : Hid (w0.heap[w.heap.size]? = some (.cells #[.slice none 0 0, .slice none 0 0, .slice none 0 0] 29 (0, 0))) := Lib.hid (by rw [hw0]; exact heap_alloc_new w _)
  have HSZ : Hid (w0.heap.size = w.heap.size + 1) := Lib.hid (by rw [hw0]; simp)
  rw [← hw0] at HS0
  have HEND : Hid (∀ W, SI w0 tb W → SI w tb W) := Lib.hid fun W hW => ⟨hW.src, grown_step HS0.out.old hW.old, hlt⟩
  obtain ⟨bL, hbL⟩ : ∃ bL, bL = w.heap.size + 1 := ⟨_, rfl⟩
  obtain ⟨w1, hw1⟩ : ∃ w1, w1 = w0.alloc (.cells #[.slice none 0 0, .slice none 0 0, .slice none 0 0] 29) := ⟨_, rfl⟩
  have HI1 : Hid (RgI w0 tb bL (.slice none 0 0) (.slice none 0 0) (.slice none 0 0) Reg.none w1) := Lib.hid (by
    refine ⟨?_, ?_, none_at _, by omega, by rw [HSZ.out, hbL]; exact Nat.le_refl _⟩
    · rw [hw1]; exact (si_start HS0.out.src).alloc _
    · rw [hw1, hbL, ← HSZ.out]; exact heap_alloc_new w0 _)
  have hrne : w.heap.size ≠ tb := by omega
  have HBL := Lib.hid hbL
  have hwE : (w.alloc (.cells #[.slice none 0 0, .slice none 0 0, .slice none 0 0] 29)).alloc (.cells #[.slice none 0 0, .slice none 0 0, .slice none 0 0] 29) = w1 := by rw [hw1, hw0]
  have hmw : IntKind.i64.wrap (most + 1) = most + 1 := IntWalk.i64_in _ (by omega)
  have HNE : Hid (∀ W, SI w0 tb W → W.heap[w.heap.size]? = some (.cells #[.slice none 0 0, .slice none 0 0, .slice none 0 0] 29 (0, 0))) := Lib.hid fun W hW => (hW.old.block _ (obj_lt HR0.out) (by simp [hrne])).trans HR0.out
  clear hs hw0 hw1
  go_enter Try.func12, Try.ntmps12
  go_upto_region 2 with fail
  rw [← hbL]
  clear hwE hbL
  go_wp2
  go_loopw [7] (fun iv wr => ∃ (r : Reg) (id : Int) (ra : Option Addr) (n0 c0 : Nat) (rb : Option Addr) (n1 c1 : Nat) (rc : Option Addr) (n2 c2 : Nat), iv = .int .i64 id ∧ 1 ≤ id ∧ id ≤ 4 ∧ Hid (id = (r.secs.length : Int) + 1) ∧ Hid (RegG r) ∧ Hid (r.ms = []) ∧ Hid (RgI w0 tb bL (.slice ra n0 c0) (.slice rb n1 c1) (.slice rc n2 c2) r wr)) (fun iv _ => 4 - (RowKit.intOf iv).toNat)
  case atStart => exact ⟨Reg.none, 1, none, 0, 0, none, 0, 0, none, 0, 0, rfl, by omega, by omega, Lib.hid rfl, Lib.hid ⟨ok_none, fun s hs => by simp [Reg.none] at hs, fun k hk => by simp [Reg.none] at hk⟩, Lib.hid rfl, HI1⟩
  case round =>
    clear HI1
    obtain ⟨r, id, ra, n0, c0, rb, n1, c1, rc, n2, c2, rfl, hid0, hid1, HIDN, HG, HNM, HI⟩ := hrel
    go_wp2_with fail
    with_reducible refine Calls.mono (range_in HI.out.si 1 3 (by omega) (by omega) (by omega)) ?_
    rintro e w6 ⟨rr, rfl, r0, r1, hi6, hg6⟩
    have HD6 := Lib.hid (HI.out.turn hi6.src hg6)
    clear hi6 hg6 HI
    by_cases hle : id ≤ rr
    · go_upto_region 5 with fail
      obtain ⟨base, hbase⟩ : ∃ n, n = w6.heap.size := ⟨_, rfl⟩
      have HTB2 : Hid (tb < base) := Lib.hid (by rw [hbase]; exact HD6.out.si.src.lt)
      have HAB : Hid (bL < base) := Lib.hid (by rw [hbase]; exact obj_lt HD6.out.box)
      obtain ⟨I, hI⟩ : ∃ I, I = fun W : World => RgI w0 tb bL (.slice ra n0 c0) (.slice rb n1 c1) (.slice rc n2 c2) r W ∧ base ≤ W.heap.size := ⟨_, rfl⟩
      have HIO : Hid (∀ W, I W → RgI w0 tb bL (.slice ra n0 c0) (.slice rb n1 c1) (.slice rc n2 c2) r W ∧ base ≤ W.heap.size) := Lib.hid fun W hW => by rw [hI] at hW; exact hW
      have HII : Hid (∀ W, RgI w0 tb bL (.slice ra n0 c0) (.slice rb n1 c1) (.slice rc n2 c2) r W → base ≤ W.heap.size → I W) := Lib.hid fun W hW h => by rw [hI]; exact ⟨hW, h⟩
      have HI0 : Hid (I w6) := Lib.hid (HII.out _ HD6.out (by rw [hbase]; exact Nat.le_refl _))
      have HIB : Hid (∀ W W', I W → Below W.heap.size W W' → I W') := Lib.hid fun W W' hW hb => HII.out _ ((HIO.out W hW).1.below hb) (Nat.le_trans (HIO.out W hW).2 hb.size)
      have HID : Hid (∀ W, I W → I W.drew) := Lib.hid fun W hW => HIB.out _ _ hW (Below.refl _ _).drew
      have HIA : Hid (∀ W o, I W → I (W.alloc o)) := Lib.hid fun W o hW => HIB.out _ _ hW (below_alloc W o)
      have HCL : Hid (∀ W, I W → ∀ i, W.cell? ⟨bL, i, none⟩ = #[.slice ra n0 c0, .slice rb n1 c1, .slice rc n2 c2][i]?) := Lib.hid fun W hW i => obj_cell (HIO.out W hW).1.box i
      have HBOX : Hid (∀ W, I W → RBox base W.heap.size (W.alloc (.cells #[.slice none 0 0, .slice none 0 0, .slice none 0 0] 29))) := Lib.hid fun W hW => ⟨(HIO.out W hW).2, _, _, _, _, _, _, _, _, _, heap_alloc_new _ _⟩
      have HPK : Hid (∀ W, I W → Calls Try.prog 36 #[.pointer (some ⟨tb, 0, none⟩), .int .i64 id] W fun e w' => ∃ sq : Sec, e = .returned (.agg (Sec.cells sq).toArray) ∧ (SecG sq ∧ sq.id = id) ∧ I w' ∧ (SrcAt W tb ∧ W.grownBy w' (some tb))) := Lib.hid fun W hW => by
        refine (sSecurity_any tb id W (HIO.out W hW).1.si.src (by omega) (by omega)).mono ?_
        rintro e w' ⟨s, z, q, rfl, h1, h2, h3, h4, h5, h6, h7⟩
        exact ⟨s, rfl, ⟨⟨z, q, h1, h3, h4, h5⟩, h2⟩, HII.out _ ((HIO.out W hW).1.turn h6 h7) (Nat.le_trans (HIO.out W hW).2 h7.size), (HIO.out W hW).1.si.src, h7⟩
      have HPO : Hid (∀ (s : Sec) W, I W → (SecG s ∧ s.id = id) → Calls Try.prog 25 #[.agg #[.slice ra n0 c0, .slice rb n1 c1, .slice rc n2 c2], .agg (Sec.cells s).toArray] W fun e w' => ∃ (xX : Option Addr) (nX : Nat) (cX : Nat) (yX : Option Addr) (mX : Nat) (dX : Nat) (zX : Option Addr) (kX : Nat) (eX : Nat), e = .returned (.tuple #[.agg #[.slice xX nX cX, .slice yX mX dX, .slice zX kX eX], .int .i64 0]) ∧ AddedR r id (.slice xX nX cX) (.slice yX mX dX) (.slice zX kX eX) w' ∧ I w' ∧ Below W.heap.size W w') := Lib.hid fun s W hW hq => by
        obtain ⟨h1, h2⟩ := hq
        refine (ryAdd_ok r s _ _ _ W HG.out.ok h1.right (fun t ht => ?_) ?_ (HIO.out W hW).1.reg).mono ?_
        · obtain ⟨k, hk, rfl⟩ := List.getElem_of_mem ht
          rw [HG.out.ids k hk, h2, HIDN.out]; omega
        · have := HIDN.out; omega
        · rintro e w' ⟨x', y', z', rfl, h5, h6⟩
          obtain ⟨xX, nX, cX, yX, mX, dX, zX, kX, eX, rfl, rfl, rfl⟩ := h5.slices
          exact ⟨xX, nX, cX, yX, mX, dX, zX, kX, eX, rfl, ⟨s, ⟨h1, h2⟩, h5⟩, HIB.out _ _ hW h6, h6⟩
      have HIP : Hid (∀ W (bE : Nat) (x0 : Option Addr) (p0 q0 : Nat) (x1 : Option Addr) (p1 q1 : Nat) (x2 : Option Addr) (p2 q2 : Nat), I W → base ≤ bE → (∃ (z0 : Option Addr) (z1 z2 : Nat) (z3 : Option Addr) (z4 z5 : Nat) (z6 : Option Addr) (z7 z8 : Nat), W.heap[bE]? = some (.cells #[.slice z0 z1 z2, .slice z3 z4 z5, .slice z6 z7 z8] 29 (0, 0))) → I (put3 W bE (.slice x0 p0 q0) (.slice x1 p1 q1) (.slice x2 p2 q2))) := Lib.hid fun W bE x0 p0 q0 x1 p1 q1 x2 p2 q2 hW hb hx => by
        obtain ⟨_, _, _, _, _, _, _, _, _, hx⟩ := hx
        have hg := put3_grown W bE (.slice x0 p0 q0) (.slice x1 p1 q1) (.slice x2 p2 q2)
        have hl := lone_reg hx
        obtain ⟨h1, h2⟩ := HIO.out W hW
        have hAB := HAB.out
        have h3 := h1.out
        exact HII.out _ ⟨h1.si.grown hg (fun q e => by injection e with e; omega), (hg.block _ (obj_lt h1.box) (by simp; omega)).trans h1.box, h1.reg.keepL hl hg, h1.ne, h1.out⟩ (Nat.le_trans h2 hg.size)
      have egS := enters_of Try.func36 (by kernel_rfl) rfl
      have egP := enters_of Try.func25 (by kernel_rfl) rfl
      clear hI hbase HII
      obtain ⟨P, hP⟩ : ∃ P : Nat → Value → World → Prop, P = fun j v W => match j with | 0 => (v = .agg #[.slice ra n0 c0, .slice rb n1 c1, .slice rc n2 c2]) | 1 => (v = .pointer (some ⟨tb, 0, none⟩)) | 2 => (v = .int .i64 id) | 3 => (∃ sq, v = .agg (Sec.cells sq).toArray ∧ (SecG sq ∧ sq.id = id)) | 4 => (∃ xX nX cX yX mX dX zX kX eX, v = .tuple #[.agg #[.slice xX nX cX, .slice yX mX dX, .slice zX kX eX], .int .i64 0] ∧ AddedR r id (.slice xX nX cX) (.slice yX mX dX) (.slice zX kX eX) W) | 5 => (∃ xX nX cX yX mX dX zX kX eX, v = .tuple #[.agg #[.slice xX nX cX, .slice yX mX dX, .slice zX kX eX], .int .i64 0] ∧ AddedR r id (.slice xX nX cX) (.slice yX mX dX) (.slice zX kX eX) W) | 6 => (∃ xX nX cX yX mX dX zX kX eX, v = .agg #[.slice xX nX cX, .slice yX mX dX, .slice zX kX eX] ∧ AddedR r id (.slice xX nX cX) (.slice yX mX dX) (.slice zX kX eX) W) | 7 => (v = .int .i64 0) | 8 => (∃ bE, v = .pointer (some ⟨bE, 0, none⟩) ∧ RBox base bE W) | 10 => (v = .int .i64 0) | _ => True := ⟨_, rfl⟩
      have HPI0 : Hid (∀ v W, P 0 v W ↔ (v = .agg #[.slice ra n0 c0, .slice rb n1 c1, .slice rc n2 c2])) := Lib.hid fun v W => by rw [hP] <;> exact Iff.rfl
      have HPI1 : Hid (∀ v W, P 1 v W ↔ (v = .pointer (some ⟨tb, 0, none⟩))) := Lib.hid fun v W => by rw [hP] <;> exact Iff.rfl
      have HPI2 : Hid (∀ v W, P 2 v W ↔ (v = .int .i64 id)) := Lib.hid fun v W => by rw [hP] <;> exact Iff.rfl
      have HPI3 : Hid (∀ v W, P 3 v W ↔ (∃ sq, v = .agg (Sec.cells sq).toArray ∧ (SecG sq ∧ sq.id = id))) := Lib.hid fun v W => by rw [hP] <;> exact Iff.rfl
      have HPI4 : Hid (∀ v W, P 4 v W ↔ (∃ xX nX cX yX mX dX zX kX eX, v = .tuple #[.agg #[.slice xX nX cX, .slice yX mX dX, .slice zX kX eX], .int .i64 0] ∧ AddedR r id (.slice xX nX cX) (.slice yX mX dX) (.slice zX kX eX) W)) := Lib.hid fun v W => by rw [hP] <;> exact Iff.rfl
      have HPI5 : Hid (∀ v W, P 5 v W ↔ (∃ xX nX cX yX mX dX zX kX eX, v = .tuple #[.agg #[.slice xX nX cX, .slice yX mX dX, .slice zX kX eX], .int .i64 0] ∧ AddedR r id (.slice xX nX cX) (.slice yX mX dX) (.slice zX kX eX) W)) := Lib.hid fun v W => by rw [hP] <;> exact Iff.rfl
      have HPI6 : Hid (∀ v W, P 6 v W ↔ (∃ xX nX cX yX mX dX zX kX eX, v = .agg #[.slice xX nX cX, .slice yX mX dX, .slice zX kX eX] ∧ AddedR r id (.slice xX nX cX) (.slice yX mX dX) (.slice zX kX eX) W)) := Lib.hid fun v W => by rw [hP] <;> exact Iff.rfl
      have HPI7 : Hid (∀ v W, P 7 v W ↔ (v = .int .i64 0)) := Lib.hid fun v W => by rw [hP] <;> exact Iff.rfl
      have HPI8 : Hid (∀ v W, P 8 v W ↔ (∃ bE, v = .pointer (some ⟨bE, 0, none⟩) ∧ RBox base bE W)) := Lib.hid fun v W => by rw [hP] <;> exact Iff.rfl
      have HPI10 : Hid (∀ v W, P 10 v W ↔ (v = .int .i64 0)) := Lib.hid fun v W => by rw [hP] <;> exact Iff.rfl
      have HKP : Hid (∀ (j : Nat) v W W', Below W.heap.size W W' → P j v W → P j v W') := Lib.hid (by
        rw [hP]
        intro j v W W' hb h
        match j, h with
        | 0, h => exact h
        | 1, h => exact h
        | 2, h => exact h
        | 3, ⟨sq, e, s0⟩ => exact ⟨sq, e, s0⟩
        | 4, ⟨xX, nX, cX, yX, mX, dX, zX, kX, eX, e, s0⟩ => exact ⟨xX, nX, cX, yX, mX, dX, zX, kX, eX, e, s0.below hb⟩
        | 5, ⟨xX, nX, cX, yX, mX, dX, zX, kX, eX, e, s0⟩ => exact ⟨xX, nX, cX, yX, mX, dX, zX, kX, eX, e, s0.below hb⟩
        | 6, ⟨xX, nX, cX, yX, mX, dX, zX, kX, eX, e, s0⟩ => exact ⟨xX, nX, cX, yX, mX, dX, zX, kX, eX, e, s0.below hb⟩
        | 7, h => exact h
        | 8, ⟨bE, e, s0⟩ => exact ⟨bE, e, s0.below hb⟩
        | 9, _ => trivial
        | 10, h => exact h
        | j + 11, _ => trivial)
      have HKT : Hid (∀ (j : Nat) v W W', SrcAt W tb → W.grownBy W' (some tb) → P j v W → P j v W') := Lib.hid (by
        rw [hP]
        intro j v W W' hs hg h
        match j, h with
        | 0, h => exact h
        | 1, h => exact h
        | 2, h => exact h
        | 3, ⟨sq, e, s0⟩ => exact ⟨sq, e, s0⟩
        | 4, ⟨xX, nX, cX, yX, mX, dX, zX, kX, eX, e, s0⟩ => exact ⟨xX, nX, cX, yX, mX, dX, zX, kX, eX, e, s0.turn hs hg⟩
        | 5, ⟨xX, nX, cX, yX, mX, dX, zX, kX, eX, e, s0⟩ => exact ⟨xX, nX, cX, yX, mX, dX, zX, kX, eX, e, s0.turn hs hg⟩
        | 6, ⟨xX, nX, cX, yX, mX, dX, zX, kX, eX, e, s0⟩ => exact ⟨xX, nX, cX, yX, mX, dX, zX, kX, eX, e, s0.turn hs hg⟩
        | 7, h => exact h
        | 8, ⟨bE, e, s0⟩ => exact ⟨bE, e, s0.turn HTB2.out hg⟩
        | 9, _ => trivial
        | 10, h => exact h
        | j + 11, _ => trivial)
      have HKL : Hid (∀ (j : Nat) v W W' b0, Lone W b0 → W.grownBy W' (some b0) → (∀ b, RBox base b W → RBox base b W') → P j v W → P j v W') := Lib.hid (by
        rw [hP]
        intro j v W W' b0 hl hg hke h
        match j, h with
        | 0, h => exact h
        | 1, h => exact h
        | 2, h => exact h
        | 3, ⟨sq, e, s0⟩ => exact ⟨sq, e, s0⟩
        | 4, ⟨xX, nX, cX, yX, mX, dX, zX, kX, eX, e, s0⟩ => exact ⟨xX, nX, cX, yX, mX, dX, zX, kX, eX, e, s0.keep hl hg⟩
        | 5, ⟨xX, nX, cX, yX, mX, dX, zX, kX, eX, e, s0⟩ => exact ⟨xX, nX, cX, yX, mX, dX, zX, kX, eX, e, s0.keep hl hg⟩
        | 6, ⟨xX, nX, cX, yX, mX, dX, zX, kX, eX, e, s0⟩ => exact ⟨xX, nX, cX, yX, mX, dX, zX, kX, eX, e, s0.keep hl hg⟩
        | 7, h => exact h
        | 8, ⟨bE, e, s0⟩ => exact ⟨bE, e, hke _ s0⟩
        | 9, _ => trivial
        | 10, h => exact h
        | j + 11, _ => trivial)
      clear hP
      go_cut [8, 9] (fun pv ev wx => ∃ (bE : Nat) (xX : Option Addr) (nX : Nat) (cX : Nat) (yX : Option Addr) (mX : Nat) (dX : Nat) (zX : Option Addr) (kX : Nat) (eX : Nat), pv = .pointer (some ⟨bE, 0, none⟩) ∧ ev = .int .i64 0 ∧ base ≤ bE ∧ Hid (I wx) ∧ Hid (wx.heap[bE]? = some (.cells #[.slice xX nX cX, .slice yX mX dX, .slice zX kX eX] 29 (0, 0))) ∧ Hid (AddedR r id (.slice xX nX cX) (.slice yX mX dX) (.slice zX kX eX) wx))
      case first =>
        refine wp_region_store [19, 20, 21, 22, 23, 18, 24, 25, 8, 9] (slotS [19, 20, 21, 22, 23, 18, 24, 25, 8, 9999, 9]) (readsS [19, 20, 21, 22, 23, 18, 24, 25, 8, 9999, 9]) (RP [19, 20, 21, 22, 23, 18, 24, 25, 8, 9999, 9] P) I (fun f W => ∃ (bE : Nat) (xX : Option Addr) (nX : Nat) (cX : Nat) (yX : Option Addr) (mX : Nat) (dX : Nat) (zX : Option Addr) (kX : Nat) (eX : Nat), f 8 = .pointer (some ⟨bE, 0, none⟩) ∧ base ≤ bE ∧ I W ∧ W.heap[bE]? = some (.cells #[.slice xX nX cX, .slice yX mX dX, .slice zX kX eX] 29 (0, 0)) ∧ AddedR r id (.slice xX nX cX) (.slice yX mX dX) (.slice zX kX eX) W) 9 8 [7, 10] (by decide) (by kernel_rfl) (by kernel_rfl) (by kernel_rfl) (by kernel_rfl) (HID.out _ HI0.out) (fun j f q v W hq h => RP.upd hq h) ?_ ?_ ?_ ?_
        case refine_1 =>
          intro iq hiq hne f W hIW hdep0
          have hiq' : iq < 11 := hiq
          have hdep : ∀ j, j ≠ 9 → depB _ iq j = true → P j (f (slotS [19, 20, 21, 22, 23, 18, 24, 25, 8, 9999, 9] j)) W := hdep0
          clear hdep0
          generalize ha1 : putsL _ [19, 20, 21, 22, 23, 18, 24, 25, 8, 9] f = a1
          match iq, hiq', hne, hdep with
          | 0, _, _, hdep0 =>
            have E6 : a1.tmps[6]?.getD undef = .pointer (some ⟨bL, 0, none⟩) := by rw [← ha1]; exact (putsL_out2 _ _ _ _ (by decide)).trans rfl
            have v0 : W.cell? ⟨bL, 0, none⟩ = some (.slice ra n0 c0) := by simpa using HCL.out W hIW 0
            have v1 : W.cell? ⟨bL, 1, none⟩ = some (.slice rb n1 c1) := by simpa using HCL.out W hIW 1
            have v2 : W.cell? ⟨bL, 2, none⟩ = some (.slice rc n2 c2) := by simpa using HCL.out W hIW 2
            exact wpOp_val rfl rfl (v := .agg #[.slice ra n0 c0, .slice rb n1 c1, .slice rc n2 c2]) (w' := W) (by simp [execOp, go_sem, E6, v0, v1, v2]) ⟨hIW, fun _ h => h, _, by decide, rfl, RP.set ((HPI0.out _ _).2 rfl)⟩
          | 1, _, _, hdep0 =>
            have E0 : a1.tmps[0]?.getD undef = .pointer (some ⟨tb, 0, none⟩) := by rw [← ha1]; exact (putsL_out2 _ _ _ _ (by decide)).trans rfl
            exact wpOp_val rfl rfl (v := .pointer (some ⟨tb, 0, none⟩)) (w' := W) (by simp [execOp, go_sem, E0]) ⟨hIW, fun _ h => h, _, by decide, rfl, RP.set ((HPI1.out _ _).2 rfl)⟩
          | 2, _, _, hdep0 =>
            have E7 : a1.tmps[7]?.getD undef = .int .i64 id := by rw [← ha1]; exact (putsL_out2 _ _ _ _ (by decide)).trans rfl
            exact wpOp_val rfl rfl (v := .int .i64 id) (w' := W) (by simp [execOp, go_sem, E7]) ⟨hIW, fun _ h => h, _, by decide, rfl, RP.set ((HPI2.out _ _).2 rfl)⟩
          | 3, _, _, hdep0 =>
            have hd1 := (HPI1.out _ _).1 (hdep0 1 (by decide) (by kernel_rfl))
            have hd2 := (HPI2.out _ _).1 (hdep0 2 (by decide) (by kernel_rfl))
            have E20 : a1.tmps[20]?.getD undef = .pointer (some ⟨tb, 0, none⟩) := by rw [← ha1]; exact (putsL_in2 _ _ _ _ (by decide) (show 20 < 46 from by decide)).trans hd1
            have E21 : a1.tmps[21]?.getD undef = .int .i64 id := by rw [← ha1]; exact (putsL_in2 _ _ _ _ (by decide) (show 21 < 46 from by decide)).trans hd2
            refine wpOp_call rfl rfl (n := 36) (vs := #[.pointer (some ⟨tb, 0, none⟩), .int .i64 id]) (by have := egS #[.pointer (some ⟨tb, 0, none⟩), .int .i64 id] W; simp [execOp, E20, E21, resolve, invoke, go_sem] <;> exact this) ((HPK.out W hIW).mono fun e w' hh => (by obtain ⟨sq, rfl, p0, hJ', hb'⟩ := hh; exact ⟨_, rfl, (HPI3.out _ _).2 ⟨_, rfl, p0⟩, hJ', hb'⟩ : ∃ v, e = .returned v ∧ (P 3 v w' ∧ I w' ∧ SrcAt W tb ∧ W.grownBy w' (some tb)))) ?_
            rintro v w' ⟨hv, hI', hb'⟩
            exact ⟨hI', fun j h => HKT.out j _ _ _ hb'.1 hb'.2 h, _, by decide, rfl, RP.set hv⟩
          | 4, _, _, hdep0 =>
            have hd0 := (HPI0.out _ _).1 (hdep0 0 (by decide) (by kernel_rfl))
            have hd3 := (HPI3.out _ _).1 (hdep0 3 (by decide) (by kernel_rfl))
            have E19 : a1.tmps[19]?.getD undef = .agg #[.slice ra n0 c0, .slice rb n1 c1, .slice rc n2 c2] := by rw [← ha1]; exact (putsL_in2 _ _ _ _ (by decide) (show 19 < 46 from by decide)).trans hd0
            obtain ⟨sq, q3, r3_0⟩ := hd3
            have E22 : a1.tmps[22]?.getD undef = .agg (Sec.cells sq).toArray := by rw [← ha1]; exact (putsL_in2 _ _ _ _ (by decide) (show 22 < 46 from by decide)).trans q3
            refine wpOp_call rfl rfl (n := 25) (vs := #[.agg #[.slice ra n0 c0, .slice rb n1 c1, .slice rc n2 c2], .agg (Sec.cells sq).toArray]) (by have := egP #[.agg #[.slice ra n0 c0, .slice rb n1 c1, .slice rc n2 c2], .agg (Sec.cells sq).toArray] W; simp [execOp, E19, E22, resolve, invoke, go_sem] <;> exact this) ((HPO.out _ W hIW r3_0).mono fun e w' hh => (by obtain ⟨xX, nX, cX, yX, mX, dX, zX, kX, eX, rfl, p0, hJ', hb'⟩ := hh; exact ⟨_, rfl, (HPI4.out _ _).2 ⟨_, _, _, _, _, _, _, _, _, rfl, p0⟩, hJ', hb'⟩ : ∃ v, e = .returned v ∧ (P 4 v w' ∧ I w' ∧ Below W.heap.size W w'))) ?_
            rintro v w' ⟨hv, hI', hb'⟩
            exact ⟨hI', fun j h => HKP.out j _ _ _ hb' h, _, by decide, rfl, RP.set hv⟩
          | 5, _, _, hdep0 =>
            have hd4 := (HPI4.out _ _).1 (hdep0 4 (by decide) (by kernel_rfl))
            obtain ⟨xX, nX, cX, yX, mX, dX, zX, kX, eX, q4, r4_0⟩ := hd4
            have E23 : a1.tmps[23]?.getD undef = .tuple #[.agg #[.slice xX nX cX, .slice yX mX dX, .slice zX kX eX], .int .i64 0] := by rw [← ha1]; exact (putsL_in2 _ _ _ _ (by decide) (show 23 < 46 from by decide)).trans q4
            exact wpOp_val rfl rfl (v := .tuple #[.agg #[.slice xX nX cX, .slice yX mX dX, .slice zX kX eX], .int .i64 0]) (w' := W) (by simp [execOp, go_sem, E23]) ⟨hIW, fun _ h => h, _, by decide, rfl, RP.set ((HPI5.out _ _).2 ⟨_, _, _, _, _, _, _, _, _, rfl, r4_0⟩)⟩
          | 6, _, _, hdep0 =>
            have hd5 := (HPI5.out _ _).1 (hdep0 5 (by decide) (by kernel_rfl))
            obtain ⟨xX, nX, cX, yX, mX, dX, zX, kX, eX, q5, r5_0⟩ := hd5
            have E18 : a1.tmps[18]?.getD undef = .tuple #[.agg #[.slice xX nX cX, .slice yX mX dX, .slice zX kX eX], .int .i64 0] := by rw [← ha1]; exact (putsL_in2 _ _ _ _ (by decide) (show 18 < 46 from by decide)).trans q5
            exact wpOp_val rfl rfl (v := .agg #[.slice xX nX cX, .slice yX mX dX, .slice zX kX eX]) (w' := W) (by simp [execOp, go_sem, E18]) ⟨hIW, fun _ h => h, _, by decide, rfl, RP.set ((HPI6.out _ _).2 ⟨_, _, _, _, _, _, _, _, _, rfl, r5_0⟩)⟩
          | 7, _, _, hdep0 =>
            have hd5 := (HPI5.out _ _).1 (hdep0 5 (by decide) (by kernel_rfl))
            obtain ⟨xX, nX, cX, yX, mX, dX, zX, kX, eX, q5, r5_0⟩ := hd5
            have E18 : a1.tmps[18]?.getD undef = .tuple #[.agg #[.slice xX nX cX, .slice yX mX dX, .slice zX kX eX], .int .i64 0] := by rw [← ha1]; exact (putsL_in2 _ _ _ _ (by decide) (show 18 < 46 from by decide)).trans q5
            exact wpOp_val rfl rfl (v := .int .i64 0) (w' := W) (by simp [execOp, go_sem, E18]) ⟨hIW, fun _ h => h, _, by decide, rfl, RP.set ((HPI7.out _ _).2 rfl)⟩
          | 8, _, _, hdep0 =>
            exact wpOp_val rfl rfl (v := .pointer (some ⟨W.heap.size, 0, none⟩)) (w' := W.alloc (.cells #[.slice none 0 0, .slice none 0 0, .slice none 0 0] 29)) (by simp [execOp, go_sem]) ⟨(HIA.out _ _ hIW), fun j h => HKP.out j _ _ _ (below_alloc _ _) h, _, by decide, rfl, RP.set ((HPI8.out _ _).2 ⟨_, rfl, HBOX.out _ hIW⟩)⟩
          | 9, _, hne, _ => exact absurd rfl hne
          | 10, _, _, hdep0 =>
            have hd7 := (HPI7.out _ _).1 (hdep0 7 (by decide) (by kernel_rfl))
            have E25 : a1.tmps[25]?.getD undef = .int .i64 0 := by rw [← ha1]; exact (putsL_in2 _ _ _ _ (by decide) (show 25 < 46 from by decide)).trans hd7
            exact wpOp_val rfl rfl (v := .int .i64 0) (w' := W) (by simp [execOp, go_sem, E25]) ⟨hIW, fun _ h => h, _, by decide, rfl, RP.set ((HPI10.out _ _).2 rfl)⟩
          | iq + 11, h, _, _ => exact absurd h (by omega)
        case refine_2 =>
          intro iq hiq hfr f W hI1 hdep0
          have hdep : ∀ j, j ≠ 9 → depB _ iq j = true → P j (f (slotS [19, 20, 21, 22, 23, 18, 24, 25, 8, 9999, 9] j)) W := hdep0
          clear hdep0
          generalize ha1 : putsL _ [19, 20, 21, 22, 23, 18, 24, 25, 8, 9] f = a1
          simp only [List.mem_cons, List.mem_nil_iff, or_false] at hfr
          rcases hfr with rfl | rfl
          · have hdep0 := hdep
            have hd5 := (HPI5.out _ _).1 (hdep0 5 (by decide) (by kernel_rfl))
            obtain ⟨xX, nX, cX, yX, mX, dX, zX, kX, eX, q5, r5_0⟩ := hd5
            have E18 : a1.tmps[18]?.getD undef = .tuple #[.agg #[.slice xX nX cX, .slice yX mX dX, .slice zX kX eX], .int .i64 0] := by rw [← ha1]; exact (putsL_in2 _ _ _ _ (by decide) (show 18 < 46 from by decide)).trans q5
            exact wpOp_val rfl rfl (v := .int .i64 0) (w' := W) (by simp [execOp, go_sem, E18]) ⟨rfl, _, by decide, rfl, RP.set ((HPI7.out _ _).2 rfl), (by obtain ⟨bE, xX, nX, cX, yX, mX, dX, zX, kX, eX, h1, h2⟩ := hI1; exact ⟨bE, xX, nX, cX, yX, mX, dX, zX, kX, eX, (updF_other f _ (by decide)).trans h1, h2⟩)⟩
          · have hdep0 := hdep
            have hd7 := (HPI7.out _ _).1 (hdep0 7 (by decide) (by kernel_rfl))
            have E25 : a1.tmps[25]?.getD undef = .int .i64 0 := by rw [← ha1]; exact (putsL_in2 _ _ _ _ (by decide) (show 25 < 46 from by decide)).trans hd7
            exact wpOp_val rfl rfl (v := .int .i64 0) (w' := W) (by simp [execOp, go_sem, E25]) ⟨rfl, _, by decide, rfl, RP.set ((HPI10.out _ _).2 rfl), (by obtain ⟨bE, xX, nX, cX, yX, mX, dX, zX, kX, eX, h1, h2⟩ := hI1; exact ⟨bE, xX, nX, cX, yX, mX, dX, zX, kX, eX, (updF_other f _ (by decide)).trans h1, h2⟩)⟩
        case refine_3 =>
          intro f W hIW hdep0
          have hdep : ∀ j, j < 11 → j ≠ 9 → ([7, 10] : List Nat).contains j = false → P j (f (slotS [19, 20, 21, 22, 23, 18, 24, 25, 8, 9999, 9] j)) W := hdep0
          have HRP : Hid (∀ j W', (∀ v, P j v W → P j v W') → RP [19, 20, 21, 22, 23, 18, 24, 25, 8, 9999, 9] P j f W → RP [19, 20, 21, 22, 23, 18, 24, 25, 8, 9999, 9] P j f W') := Lib.hid fun j W' h1 h2 => h1 _ h2
          clear hdep0
          generalize ha1 : putsL _ [19, 20, 21, 22, 23, 18, 24, 25, 8, 9] f = a1
          obtain ⟨bE, q8, r8_0⟩ := ((HPI8.out _ _).1 (hdep 8 (by decide) (by decide) (by decide)))
          have E8 : a1.tmps[8]?.getD undef = .pointer (some ⟨bE, 0, none⟩) := by rw [← ha1]; exact (putsL_in2 _ _ _ _ (by decide) (show 8 < 46 from by decide)).trans q8
          obtain ⟨xX, nX, cX, yX, mX, dX, zX, kX, eX, q6, r6_0⟩ := ((HPI6.out _ _).1 (hdep 6 (by decide) (by decide) (by decide)))
          have E24 : a1.tmps[24]?.getD undef = .agg #[.slice xX nX cX, .slice yX mX dX, .slice zX kX eX] := by rw [← ha1]; exact (putsL_in2 _ _ _ _ (by decide) (show 24 < 46 from by decide)).trans q6
          obtain ⟨hbE1, z0, z1, z2, z3, z4, z5, z6, z7, z8, hbE2⟩ := r8_0
          have p0 := obj_cell hbE2 0
          have p1 := obj_cell hbE2 1
          have p2 := obj_cell hbE2 2
          have pf0 := obj_free hbE2 0
          have pf1 := obj_free hbE2 1
          have pf2 := obj_free hbE2 2
          simp at p0 p1 p2
          have e8 : f 8 = .pointer (some ⟨bE, 0, none⟩) := q8
          have hg : W.grownBy (put3 W bE (.slice xX nX cX) (.slice yX mX dX) (.slice zX kX eX)) (some bE) := put3_grown _ _ _ _ _
          have hl := lone_reg hbE2
          have hset := put3_at hbE2 rfl (.slice xX nX cX) (.slice yX mX dX) (.slice zX kX eX)
          exact wpOp_skip rfl rfl (w' := put3 W bE (.slice xX nX cX) (.slice yX mX dX) (.slice zX kX eX)) (by simp [execOp, go_sem, E8, E24, p0, p1, p2, pf0, pf1, pf2, put3]) ⟨rfl, ⟨bE, xX, nX, cX, yX, mX, dX, zX, kX, eX, e8, hbE1, HIP.out _ _ _ _ _ _ _ _ _ _ _ hIW hbE1 ⟨_, _, _, _, _, _, _, _, _, hbE2⟩, hset, r6_0.keep hl hg⟩, fun j h => HRP.out j _ (fun v h => HKL.out j v W _ bE hl hg (fun b hb => hb.put hbE2) h) h⟩
        case refine_4 =>
          intro f W hI1 hR
          have h9 := (HPI10.out _ _).1 (hR 10 (show 10 < 11 from by decide) (by decide))
          simp only [putsL, List.foldl_cons, List.foldl_nil, Act.put, List.setIfInBounds_toArray, List.set_cons_zero, List.set_cons_succ]
          obtain ⟨bE, xX, nX, cX, yX, mX, dX, zX, kX, eX, h1, h2, h3, h4, h5⟩ := hI1
          go_wp2
          go_meet
          exact ⟨bE, xX, nX, cX, yX, mX, dX, zX, kX, eX, (by first | exact h1 | rfl), (by first | exact h9 | rfl), h2, Lib.hid h3, Lib.hid h4, Lib.hid h5⟩
      case rest =>
        obtain ⟨bE, xX, nX, cX, yX, mX, dX, zX, kX, eX, rfl, rfl, hbE, HI9, HBE, HPB⟩ := hcut
        clear HPO HPK HBOX HCL HIP HIA HID HIB HI0
        have HD9 := Lib.hid (HIO.out _ HI9.out).1
        obtain ⟨q, ⟨q1, q2⟩, q3⟩ := HPB.out
        have HQ3 := Lib.hid q3
        have HIDN2 : Hid (id + 1 = (((r.secs ++ [q]).length : Nat) : Int) + 1) := Lib.hid (by have := HIDN.out; simp; omega)
        have HG2 : Hid (RegG ⟨r.secs ++ [q], r.hs, r.ms⟩) := Lib.hid (HG.out.snoc HNM.out (by have := HIDN.out; omega) q1 (by rw [q2, HIDN.out]))
        have hex := HBE.out
        have g0 := obj_cell hex 0
        have g1 := obj_cell hex 1
        have g2 := obj_cell hex 2
        simp at g0 g1 g2
        have hA := HD9.out.box
        have s0 := obj_cell hA 0
        have s1 := obj_cell hA 1
        have s2 := obj_cell hA 2
        have sf0 := obj_free hA 0
        have sf1 := obj_free hA 1
        have sf2 := obj_free hA 2
        simp at s0 s1 s2
        have HD10 : Hid (RgI w0 tb bL (.slice xX nX cX) (.slice yX mX dX) (.slice zX kX eX) ⟨r.secs ++ [q], r.hs, r.ms⟩ (put3 wc bL (.slice xX nX cX) (.slice yX mX dX) (.slice zX kX eX))) := Lib.hid (by
          have hg := put3_grown wc bL (.slice xX nX cX) (.slice yX mX dX) (.slice zX kX eX)
          exact ⟨HD9.out.si.grown hg (fun q e => by injection e with e; have := HD9.out.out; omega), put3_at hA rfl _ _ _, HQ3.out.keepL (lone_reg hA) hg, HD9.out.ne, HD9.out.out⟩)
        have hwk : IntKind.i64.wrap (id + 1) = id + 1 := IntWalk.i64_in _ (by omega)
        obtain ⟨w10, hw10⟩ : ∃ W, W = put3 wc bL (.slice xX nX cX) (.slice yX mX dX) (.slice zX kX eX) := ⟨_, rfl⟩
        rw [← hw10] at HD10
        unfold put3 at hw10
        clear hex hA q1 q2 q3
        go_upto_region 4 with fail
        rw [← hw10]
        clear hw10
        go_wp2
        go_roundw
        case rel => exact ⟨⟨r.secs ++ [q], r.hs, r.ms⟩, id + 1, _, _, _, _, _, _, _, _, _, by first | rfl | go_num, by omega, by omega, HIDN2, HG2, HNM, HD10⟩
        case measure => simp [RowKit.intOf]; omega
    · have HLE : Hid (1 ≤ r.secs.length ∧ r.secs.length ≤ 3) := Lib.hid (by have := HIDN.out; omega)
      go_wp2_with fail
      with_reducible refine Calls.mono (n_in HD6.out.si (most + 1) (by omega) (by omega)) ?_
      rintro e w7 ⟨k0, rfl, k00, k01, hi7, hg7⟩
      have HD7 := Lib.hid (HD6.out.turn hi7.src hg7)
      have HML : Hid ((r.ms.length : Int) + k0 ≤ most) := Lib.hid (by rw [HNM.out]; simp; omega)
      clear hi7 hg7 HD6
      go_wp2
      go_loopw [10, 11] (fun dv kv wr => ∃ (r : Reg) (d k : Int) (ra : Option Addr) (n0 c0 : Nat) (rb : Option Addr) (n1 c1 : Nat) (rc : Option Addr) (n2 c2 : Nat), dv = .int .i64 d ∧ kv = .int .i64 k ∧ 0 ≤ k ∧ 0 ≤ d ∧ d + 100 * k ≤ 100 * most ∧ Hid ((r.ms.length : Int) + k ≤ most) ∧ Hid (1 ≤ r.secs.length ∧ r.secs.length ≤ 3) ∧ Hid (RegG r) ∧ Hid (RgI w0 tb bL (.slice ra n0 c0) (.slice rb n1 c1) (.slice rc n2 c2) r wr)) (fun _ kv _ => (RowKit.intOf kv).toNat)
      case atStart => exact ⟨r, 0, k0, _, _, _, _, _, _, _, _, _, rfl, rfl, k00, Int.le_refl _, by omega, HML, HLE, HG, HD7⟩
      case round =>
        clear HD7 HML HLE HG HNM HIDN
        obtain ⟨r, d, k, ra, n0, c0, rb, n1, c1, rc, n2, c2, rfl, rfl, hk0, hd0, hd1, HML, HLE, HG, HI⟩ := hrel
        have hbox := HI.out.box
        have s0 := obj_cell hbox 0
        have s1 := obj_cell hbox 1
        have s2 := obj_cell hbox 2
        have sf0 := obj_free hbox 0
        have sf1 := obj_free hbox 1
        have sf2 := obj_free hbox 2
        simp at s0 s1 s2
        have hboxH := Lib.hid hbox
        clear hbox
        by_cases hk : 0 < k
        · go_wp2_with fail
          with_reducible refine Calls.mono (sDeal_ok tb r _ _ _ d _ HI.out.si.src HG.out.ok HI.out.reg ⟨hd0, by omega⟩) ?_
          rintro e w8 ⟨x', y', z', r', d', rfl, hdl, hrr, hi8⟩
          obtain ⟨p0, q0, u0, p1, q1, u1, p2, q2, u2, rfl, rfl, rfl⟩ := hrr.slices
          have hdd := hdl.day
          have HML2 : Hid ((r'.ms.length : Int) + (k - 1) ≤ most) := Lib.hid (by have := hdl.len; have := HML.out; omega)
          have HLE2 : Hid (1 ≤ r'.secs.length ∧ r'.secs.length ≤ 3) := Lib.hid (by rw [hdl.secs]; exact HLE.out)
          have HG2 := Lib.hid (hdl.gen HG.out)
          have HI8 := Lib.hid (HI.out.turn hi8.src hi8.old)
          have HRR := Lib.hid hrr
          clear hdl hrr hi8 s0 s1 s2 sf0 sf1 sf2 hboxH
          have hA := HI8.out.box
          have s0 := obj_cell hA 0
          have s1 := obj_cell hA 1
          have s2 := obj_cell hA 2
          have sf0 := obj_free hA 0
          have sf1 := obj_free hA 1
          have sf2 := obj_free hA 2
          simp at s0 s1 s2
          have HD10 : Hid (RgI w0 tb bL (.slice p0 q0 u0) (.slice p1 q1 u1) (.slice p2 q2 u2) r' (put3 w8 bL (.slice p0 q0 u0) (.slice p1 q1 u1) (.slice p2 q2 u2))) := Lib.hid (by
            have hg := put3_grown w8 bL (.slice p0 q0 u0) (.slice p1 q1 u1) (.slice p2 q2 u2)
            exact ⟨HI8.out.si.grown hg (fun q e => by injection e with e; have := HI8.out.out; omega), put3_at hA rfl _ _ _, HRR.out.keepL (lone_reg hA) hg, HI8.out.ne, HI8.out.out⟩)
          obtain ⟨w10, hw10⟩ : ∃ W, W = put3 w8 bL (.slice p0 q0 u0) (.slice p1 q1 u1) (.slice p2 q2 u2) := ⟨_, rfl⟩
          rw [← hw10] at HD10
          unfold put3 at hw10
          have hwk : IntKind.i64.wrap (k - 1) = k - 1 := IntWalk.i64_in _ (by omega)
          clear hA
          go_upto_region 11 with fail
          rw [← hw10]
          clear hw10
          go_wp2
          go_roundw
          case rel => exact ⟨r', d', k - 1, _, _, _, _, _, _, _, _, _, rfl, by first | rfl | go_num, by omega, by omega, by omega, HML2, HLE2, HG2, HD10⟩
          case measure => simp [RowKit.intOf]; omega
        · obtain rfl : k = 0 := by omega
          have hr := HNE.out _ HI.out.si
          have t0 := obj_cell hr 0
          have t1 := obj_cell hr 1
          have t2 := obj_cell hr 2
          have tf0 := obj_free hr 0
          have tf1 := obj_free hr 1
          have tf2 := obj_free hr 2
          simp at t0 t1 t2
          have HHR := Lib.hid hr
          clear hr
          go_wp2
          exact ret3 HHR.out rfl _ _ _ (fun F hF => by
            have q0 := obj_cell hF 0
            have q1 := obj_cell hF 1
            have q2 := obj_cell hF 2
            simp [results, Try.results12, go_sem, q0, q1, q2]) rfl (reg_post HG.out HLE.out.1 HLE.out.2 (by have := HML.out; omega) ⟨hd0, by omega⟩ (HI.out.reg.keepL (lone_reg HHR.out) (put3_grown _ _ _ _ _)) ((HEND.out _ HI.out.si).put3 hlt))

end Go.Proofs.Ytblidmkkbcobgaa
