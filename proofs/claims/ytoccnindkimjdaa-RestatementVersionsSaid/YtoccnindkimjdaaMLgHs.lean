/- The source's Ledger: a right ledger, for every tape. -/
import Derived.Test.YtoccnindkimjdaaMLgRp
import Derived.Test.YtoccnindkimjdaaMLgGs
set_option linter.unusedSimpArgs false
set_option linter.unusedVariables false
set_option linter.unusedSimpArgs false
set_option linter.unusedVariables false
namespace Go.Proofs.Ytoccnindkimjdaa
open Go.RowKit Go.Lib Go.Proofs

/-- Block b holds no two numbers side by side. -/
def Lone (w : World) (b : Nat) : Prop := ∀ (o : Nat) (x y : Int), w.cell? ⟨b, o, none⟩ = some (.int .i64 x) → w.cell? ⟨b, o + 1, none⟩ = some (.int .i64 y) → False
theorem lone_ldg {w : World} {b : Nat} {a : Option Addr} {n c : Nat} (h : w.heap[b]? = some (.cells #[.slice a n c] 27 (0, 0))) : Lone w b := by
  intro o y z h0 h1
  rw [obj_cell h] at h0 h1
  match o with
  | 0 => simp at h1
  | o + 1 => simp at h0
theorem not_src {w : World} {tb b o : Nat} {x y : Int} (hs : SrcAt w tb) (h0 : w.cell? ⟨b, o, none⟩ = some (.int .i64 x)) (h1 : w.cell? ⟨b, o + 1, none⟩ = some (.int .i64 y)) : b ≠ tb := by
  rintro rfl
  obtain ⟨ao, n, cap, k, h, _⟩ := hs
  rw [obj_cell h] at h0 h1
  match o with
  | 0 => simp at h0
  | o + 1 => simp at h1
theorem psts_move {w w' : World} {v : Value} {l : List Pst} {b0 : Nat} (h : PstsAt w v l) (hne : ∀ b o x y, w.cell? ⟨b, o, none⟩ = some (.int .i64 x) → w.cell? ⟨b, o + 1, none⟩ = some (.int .i64 y) → b ≠ b0) (hg : w.grownBy w' (some b0)) : PstsAt w' v l := by
  obtain ⟨aK, cK, e0, hcap, hc⟩ := h.open
  obtain ⟨h1, ao', cap', h2, h3, h4⟩ := h
  refine ⟨h1, ao', cap', h2, h3, ?_⟩
  rcases h4 with h4 | ⟨b', o', e, hb', hc'⟩
  · exact Or.inl h4
  · by_cases hl : l.length = 0
    · exact Or.inl hl
    · obtain ⟨b, o, h5, h6, h7⟩ := hc (by omega)
      rw [e0] at h2
      injection h2 with h8 _ _
      rw [h5, e] at h8
      injection h8 with h8
      injection h8 with h9 h10 _
      subst h9 h10
      have k0 := h7 0 (by omega) 0 (by omega)
      have k1 := h7 0 (by omega) 1 (by omega)
      simp [pstC] at k0 k1
      have hb0 := hne _ _ _ _ k0 k1
      refine Or.inr ⟨b, o, e, Nat.lt_of_lt_of_le hb' hg.size, fun j hj => ?_⟩
      rw [← hc' j hj]
      unfold World.cell?
      simp only
      rw [hg.block b hb' (by simp [hb0])]
theorem PstsAt.turn {w w' : World} {v : Value} {l : List Pst} {tb : Nat} (h : PstsAt w v l) (hs : SrcAt w tb) (hg : w.grownBy w' (some tb)) : PstsAt w' v l := psts_move h (fun _ _ _ _ h0 h1 => not_src hs h0 h1) hg
theorem PstsAt.keep {w w' : World} {v : Value} {l : List Pst} {b0 : Nat} (h : PstsAt w v l) (hs : Lone w b0) (hg : w.grownBy w' (some b0)) : PstsAt w' v l := psts_move h (fun b o x y h0 h1 e => by subst e; exact hs _ _ _ h0 h1) hg

/-- A right ledger of some entities, over some days. -/
structure LdgIn (l : List Pst) (ents days : Int) : Prop where
  ok : LdgOk l
  ent : ∀ p ∈ l, (p.ent ≤ ents ∧ p.amt ≤ 1000)
  day : (lastP l).day ≤ days
/-- The row holds the ledger with one posting more. -/
def PostedL (l : List Pst) (d ents : Int) (u : Value) (W : World) : Prop := ∃ q : Pst, PstOk q ∧ q.num = (l.length : Int) + 1 ∧ q.day = d ∧ (q.ent ≤ ents ∧ q.amt ≤ 1000) ∧ PstsAt W u (l ++ [q])
theorem PostedL.below {l : List Pst} {d ents : Int} {u : Value} {A B : World} (h : PostedL l d ents u A) (hb : Below A.heap.size A B) : PostedL l d ents u B := by
  obtain ⟨q, h1, h2, h3, h4, h5⟩ := h; exact ⟨q, h1, h2, h3, h4, ListAt.below h5 hb⟩
theorem PostedL.turn {l : List Pst} {d ents : Int} {u : Value} {A B : World} {tb : Nat} (h : PostedL l d ents u A) (hs : SrcAt A tb) (hg : A.grownBy B (some tb)) : PostedL l d ents u B := by
  obtain ⟨q, h1, h2, h3, h4, h5⟩ := h; exact ⟨q, h1, h2, h3, h4, PstsAt.turn h5 hs hg⟩
theorem PostedL.keep {l : List Pst} {d ents : Int} {u : Value} {A B : World} {b0 : Nat} (h : PostedL l d ents u A) (hl : Lone A b0) (hg : A.grownBy B (some b0)) : PostedL l d ents u B := by
  obtain ⟨q, h1, h2, h3, h4, h5⟩ := h; exact ⟨q, h1, h2, h3, h4, PstsAt.keep h5 hl hg⟩
/-- Some ledger in a box. -/
def LBox (base b : Nat) (W : World) : Prop := base ≤ b ∧ ∃ (a : Option Addr) (n c : Nat), W.heap[b]? = some (.cells #[.slice a n c] 27 (0, 0))
theorem LBox.below {base b : Nat} {A B : World} (h : LBox base b A) (hb : Below A.heap.size A B) : LBox base b B := by
  obtain ⟨h1, a, n, c, h2⟩ := h
  exact ⟨h1, a, n, c, obj_below h2 hb⟩
theorem LBox.turn {base b tb : Nat} {A B : World} (h : LBox base b A) (ht : tb < base) (hg : A.grownBy B (some tb)) : LBox base b B := by
  obtain ⟨h1, a, n, c, h2⟩ := h
  exact ⟨h1, a, n, c, obj_turn h2 hg (by omega)⟩
theorem LBox.put {base b b0 : Nat} {A : World} (h : LBox base b A) {a x : Option Addr} {n c m e : Nat} (h0 : A.heap[b0]? = some (.cells #[.slice a n c] 27 (0, 0))) : LBox base b (A.setCell ⟨b0, 0, none⟩ (.slice x m e)) := by
  obtain ⟨h1, a', n', c', h2⟩ := h
  by_cases hb : b = b0
  · subst hb
    have hset := obj_set h2 0 (.slice x m e)
    simp only [List.setIfInBounds_toArray, List.set_cons_zero] at hset
    exact ⟨h1, _, _, _, hset⟩
  · exact ⟨h1, _, _, _, ((show A.grownBy (A.setCell ⟨b0, 0, none⟩ (.slice x m e)) (some b0) from setCell_grown _ _).block b (obj_lt h2) (by simp [hb])).trans h2⟩
/-- A world within the source's Ledger. -/
structure LgI (w0 : World) (tb bL : Nat) (v : Value) (l : List Pst) (W : World) : Prop where
  si : SI w0 tb W
  box : W.heap[bL]? = some (.cells #[v] 27 (0, 0))
  rows : PstsAt W v l
  ne : tb < bL
  out : w0.heap.size ≤ bL
theorem LgI.below {w0 : World} {tb bL : Nat} {v : Value} {l : List Pst} {A B : World} (h : LgI w0 tb bL v l A) (hb : Below A.heap.size A B) : LgI w0 tb bL v l B := ⟨h.si.below hb, obj_below h.box hb, ListAt.below h.rows hb, h.ne, h.out⟩
theorem LgI.turn {w0 : World} {tb bL : Nat} {v : Value} {l : List Pst} {A B : World} (h : LgI w0 tb bL v l A) (hs : SrcAt B tb) (hg : A.grownBy B (some tb)) : LgI w0 tb bL v l B := ⟨h.si.turn hs hg, obj_turn h.box hg (by have := h.ne; omega), PstsAt.turn h.rows h.si.src hg, h.ne, h.out⟩

set_option maxRecDepth 100000 in
set_option maxHeartbeats 16000000 in
theorem sLedger_any (tb : Nat) (most ents days : Int) (w : World) (hs : SrcAt w tb) (hm : 0 ≤ most ∧ most ≤ 100) (he : 1 ≤ ents ∧ ents ≤ 10) (hd : 0 ≤ days ∧ days ≤ 10000) :
    Calls Try.prog 23 #[.pointer (some ⟨tb, 0, none⟩), .int .i64 most, .int .i64 ents, .int .i64 days] w fun e w' => ∃ l v, e = .returned (.agg #[v]) ∧ LdgIn l ents days ∧ (l.length : Int) ≤ most ∧ PstsAt w' v l ∧ SI w tb w' := by
  have hlt := hs.lt
  have hs1 := (si_start hs).alloc (.cells #[.slice none 0 0] 27)
  have HS0 := Lib.hid hs1
  obtain ⟨w0, hw0⟩ : ∃ w0, w0 = w.alloc (.cells #[.slice none 0 0] 27) := ⟨_, rfl⟩
  have HR0 : Hid (w0.heap[w.heap.size]? = some (.cells #[.slice none 0 0] 27 (0, 0))) := Lib.hid (by rw [hw0]; exact heap_alloc_new w _)
  have HSZ : Hid (w0.heap.size = w.heap.size + 1) := Lib.hid (by rw [hw0]; simp)
  rw [← hw0] at HS0
  have HEND : Hid (∀ W, SI w0 tb W → SI w tb W) := Lib.hid fun W hW => ⟨hW.src, grown_step HS0.out.old hW.old, hlt⟩
  obtain ⟨bL, hbL⟩ : ∃ bL, bL = w.heap.size + 1 := ⟨_, rfl⟩
  obtain ⟨w1, hw1⟩ : ∃ w1, w1 = w0.alloc (.cells #[.slice none 0 0] 27) := ⟨_, rfl⟩
  have HI1 : Hid (LgI w0 tb bL (.slice none 0 0) [] w1) := Lib.hid (by
    refine ⟨?_, ?_, ?_, by omega, by rw [HSZ.out, hbL]; exact Nat.le_refl _⟩
    · rw [hw1]; exact (si_start HS0.out.src).alloc _
    · rw [hw1, hbL, ← HSZ.out]; exact heap_alloc_new w0 _
    · exact ListAt.owns (base := 0) (e := 55) (World.ownsRow_nil _ _ _ _))
  have hrne : w.heap.size ≠ tb := by omega
  have HBL := Lib.hid hbL
  have hwE : (w.alloc (.cells #[.slice none 0 0] 27)).alloc (.cells #[.slice none 0 0] 27) = w1 := by rw [hw1, hw0]
  have hmw : IntKind.i64.wrap (most + 1) = most + 1 := IntWalk.i64_in _ (by omega)
  obtain ⟨c4, hc4⟩ : ∃ c, days.tdiv 4 = c := ⟨_, rfl⟩
  have hc40 : 0 ≤ c4 ∧ c4 ≤ 10000 := by
    rw [← hc4, Int.tdiv_eq_ediv_of_nonneg (by omega)]; omega
  have hq1 : IntKind.i64.wrap c4 = c4 := IntWalk.i64_in _ (by omega)
  have hq2 : wrap64 c4 = c4 := by simp only [wrap64]; omega
  have hq3 : IntKind.i64.wrap (c4 + 2) = c4 + 2 := IntWalk.i64_in _ (by omega)
  clear hs hs1 hw0 hw1 hbL
  go_enter Try.func23, Try.ntmps23
  go_wp2_with fail
  refine (n_in HI1.out.si (most + 1) (by omega) (by omega)).mono ?_
  rintro e w2 ⟨k0, rfl, k00, k01, hi2, hg2⟩
  have HI2 := Lib.hid (HI1.out.turn hi2.src hg2)
  have hlm : (([] : List Pst).length : Int) + k0 ≤ most := by simp; omega
  rw [show w.heap.size + 1 = bL from HBL.out.symm]
  clear hi2 hg2 HI1 hwE
  go_wp2
  go_loopw [10, 11] (fun dv kv wr => ∃ (l : List Pst) (k d0 : Int) (aV : Option Addr) (nV cV : Nat), dv = .int .i64 d0 ∧ kv = .int .i64 k ∧ 0 ≤ k ∧ 0 ≤ d0 ∧ d0 ≤ days ∧ Hid ((l.length : Int) + k ≤ most) ∧ Hid (nV = l.length) ∧ Hid (LdgIn l ents d0) ∧ Hid (LgI w0 tb bL (.slice aV nV cV) l wr)) (fun _ kv _ => (RowKit.intOf kv).toNat)
  case atStart => exact ⟨[], k0, 0, none, 0, 0, rfl, rfl, k00, Int.le_refl _, hd.1, Lib.hid hlm, Lib.hid rfl, Lib.hid ⟨ldgOk_nil, fun p hp => by simp at hp, Int.le_refl _⟩, HI2⟩
  case round =>
    clear HI2 hlm
    obtain ⟨l, k, d0, aV, nV, cV, rfl, rfl, hk0, hd0, hd1, HLK, HNV, HLD, HI⟩ := hrel
    by_cases hk : 0 < k
    · have HSI := Lib.hid HI.out.si
      go_wp2_with fail
      refine (n_in HSI.out (c4 + 2) (by omega) (by omega)).mono ?_
      rintro e w6 ⟨rr, rfl, r0, r1, hi6, hg6⟩
      have HD6 := Lib.hid (HI.out.turn hi6.src hg6)
      clear hi6 hg6 HI HSI
      have hwr : IntKind.i64.wrap (d0 + rr) = d0 + rr := IntWalk.i64_in _ (by omega)
      obtain ⟨d, hmin⟩ : ∃ d, (if days < d0 + rr then days else d0 + rr) = d := ⟨_, rfl⟩
      have hdd : d0 ≤ d ∧ d ≤ days ∧ 0 ≤ d := by
        rw [← hmin]
        split <;> omega
      go_upto_region 7 with fail
      obtain ⟨base, hbase⟩ : ∃ n, n = w6.heap.size := ⟨_, rfl⟩
      have HTB2 : Hid (tb < base) := Lib.hid (by rw [hbase]; exact HD6.out.si.src.lt)
      have HAB : Hid (bL < base) := Lib.hid (by rw [hbase]; exact obj_lt HD6.out.box)
      obtain ⟨I, hI⟩ : ∃ I, I = fun W : World => LgI w0 tb bL (.slice aV nV cV) l W ∧ base ≤ W.heap.size := ⟨_, rfl⟩
      have HIO : Hid (∀ W, I W → LgI w0 tb bL (.slice aV nV cV) l W ∧ base ≤ W.heap.size) := Lib.hid fun W hW => by rw [hI] at hW; exact hW
      have HII : Hid (∀ W, LgI w0 tb bL (.slice aV nV cV) l W → base ≤ W.heap.size → I W) := Lib.hid fun W hW h => by rw [hI]; exact ⟨hW, h⟩
      have HI0 : Hid (I w6) := Lib.hid (HII.out _ HD6.out (by rw [hbase]; exact Nat.le_refl _))
      have HIB : Hid (∀ W W', I W → Below W.heap.size W W' → I W') := Lib.hid fun W W' hW hb => HII.out _ ((HIO.out W hW).1.below hb) (Nat.le_trans (HIO.out W hW).2 hb.size)
      have HID : Hid (∀ W, I W → I W.drew) := Lib.hid fun W hW => HIB.out _ _ hW (Below.refl _ _).drew
      have HIA : Hid (∀ W o, I W → I (W.alloc o)) := Lib.hid fun W o hW => HIB.out _ _ hW (below_alloc W o)
      have HCL : Hid (∀ W, I W → ∀ i, W.cell? ⟨bL, i, none⟩ = #[.slice aV nV cV][i]?) := Lib.hid fun W hW i => obj_cell (HIO.out W hW).1.box i
      have HBOX : Hid (∀ W, I W → LBox base W.heap.size (W.alloc (.cells #[.slice none 0 0] 27))) := Lib.hid fun W hW => ⟨(HIO.out W hW).2, _, _, _, heap_alloc_new _ _⟩
      have hl4 := HLD.out.ok.len
      have hlk := HLK.out
      have hnv4 : nV < 400 := by rw [HNV.out]; omega
      have hnw : IntKind.i64.wrap ((nV : Int) + 1) = (nV : Int) + 1 := IntWalk.i64_in _ (by omega)
      have HPK : Hid (∀ W, I W → Calls Try.prog 37 #[.pointer (some ⟨tb, 0, none⟩), .int .i64 ((nV : Int) + 1), .int .i64 d, .int .i64 ents] W fun e w' => ∃ pq : Pst, e = .returned (.agg (pstC pq).toArray) ∧ (PstOk pq ∧ pq.num = (nV : Int) + 1 ∧ pq.day = d ∧ (pq.ent ≤ ents ∧ pq.amt ≤ 1000)) ∧ I w' ∧ (SrcAt W tb ∧ W.grownBy w' (some tb))) := Lib.hid fun W hW => by
        refine (sPosting_any tb ((nV : Int) + 1) d ents W (HIO.out W hW).1.si.src ⟨by omega, by omega⟩ ⟨hdd.2.2, by omega⟩ he).mono ?_
        rintro e w' ⟨q, h1, h2, h3, h4, h5, h6⟩
        exact ⟨q, h1, ⟨h2, h3, h4, h5⟩, HII.out _ ((HIO.out W hW).1.turn h6.src h6.old) (Nat.le_trans (HIO.out W hW).2 h6.old.size), (HIO.out W hW).1.si.src, h6.old⟩
      have HPO : Hid (∀ (q : Pst) W, I W → (PstOk q ∧ q.num = (nV : Int) + 1 ∧ q.day = d ∧ (q.ent ≤ ents ∧ q.amt ≤ 1000)) → Calls Try.prog 45 #[.agg #[.slice aV nV cV], .agg (pstC q).toArray] W fun e w' => ∃ (aX : Option Addr) (nX cX : Nat), e = .returned (.tuple #[.agg #[.slice aX nX cX], .int .i64 0]) ∧ PostedL l d ents (.slice aX nX cX) w' ∧ I w' ∧ Below W.heap.size W w') := Lib.hid fun q W hW hq => by
        obtain ⟨h1, h2, h3, h4⟩ := hq
        refine (rgPost_right HLD.out.ok (by rw [← HNV.out]; exact hnv4) h1 (by rw [h2, HNV.out]) (by rw [h3]; exact Int.le_trans HLD.out.day hdd.1) (.slice aV nV cV) W (HIO.out W hW).1.rows).mono ?_
        rintro e w' ⟨u, h5, h6, h7⟩
        obtain ⟨aX, cX, rfl, -, -⟩ := owns_gen h6
        have h8 : w'.ownsRow W.heap.size 55 8 (.slice aX (l.length + 1) cX) (l ++ [q]).length (cellsL pstC (l ++ [q])) := by
          rw [List.length_append]; exact h6
        exact ⟨aX, _, cX, h5, ⟨q, h1, by rw [h2, HNV.out], h3, h4, ListAt.owns h8⟩, HIB.out _ _ hW h7, h7⟩
      have HIP : Hid (∀ W (bE : Nat) (a : Option Addr) (n c : Nat), I W → base ≤ bE → (∃ (z0 : Option Addr) (z1 z2 : Nat), W.heap[bE]? = some (.cells #[.slice z0 z1 z2] 27 (0, 0))) → I (W.setCell ⟨bE, 0, none⟩ (.slice a n c))) := Lib.hid fun W bE a n c hW hb hx => by
        obtain ⟨z0, z1, z2, hx⟩ := hx
        have hg : W.grownBy (W.setCell ⟨bE, 0, none⟩ (.slice a n c)) (some bE) := setCell_grown _ _
        have hl := lone_ldg hx
        obtain ⟨h1, h2⟩ := HIO.out W hW
        have hAB := HAB.out
        have h3 := h1.out
        exact HII.out _ ⟨h1.si.set (by omega) _ _, (hg.block _ (obj_lt h1.box) (by simp; omega)).trans h1.box, PstsAt.keep h1.rows hl hg, h1.ne, h1.out⟩ (Nat.le_trans h2 hg.size)
      have egS := enters_of Try.func37 (by kernel_rfl) rfl
      have egP := enters_of Try.func45 (by kernel_rfl) rfl
      clear hI hbase HII hl4 hlk
      obtain ⟨P, hP⟩ : ∃ P : Nat → Value → World → Prop, P = fun j v W => match j with | 0 => (v = .agg #[.slice aV nV cV]) | 1 => (v = .pointer (some ⟨tb, 0, none⟩)) | 2 => (v = .pointer (some ⟨bL, 0, none⟩)) | 3 => (v = .slice aV nV cV) | 4 => (v = .int .i64 (nV : Int)) | 5 => (v = .int .i64 ((nV : Int) + 1)) | 6 => (v = .int .i64 d) | 7 => (v = .int .i64 ents) | 8 => (∃ pq, v = .agg (pstC pq).toArray ∧ (PstOk pq ∧ pq.num = (nV : Int) + 1 ∧ pq.day = d ∧ (pq.ent ≤ ents ∧ pq.amt ≤ 1000))) | 9 => (∃ aX nX cX, v = .tuple #[.agg #[.slice aX nX cX], .int .i64 0] ∧ PostedL l d ents (.slice aX nX cX) W) | 10 => (∃ aX nX cX, v = .tuple #[.agg #[.slice aX nX cX], .int .i64 0] ∧ PostedL l d ents (.slice aX nX cX) W) | 11 => (∃ aX nX cX, v = .agg #[.slice aX nX cX] ∧ PostedL l d ents (.slice aX nX cX) W) | 12 => (v = .int .i64 0) | 13 => (∃ bE, v = .pointer (some ⟨bE, 0, none⟩) ∧ LBox base bE W) | 15 => (v = .int .i64 0) | _ => True := ⟨_, rfl⟩
      have HPI0 : Hid (∀ v W, P 0 v W ↔ (v = .agg #[.slice aV nV cV])) := Lib.hid fun v W => by rw [hP] <;> exact Iff.rfl
      have HPI1 : Hid (∀ v W, P 1 v W ↔ (v = .pointer (some ⟨tb, 0, none⟩))) := Lib.hid fun v W => by rw [hP] <;> exact Iff.rfl
      have HPI2 : Hid (∀ v W, P 2 v W ↔ (v = .pointer (some ⟨bL, 0, none⟩))) := Lib.hid fun v W => by rw [hP] <;> exact Iff.rfl
      have HPI3 : Hid (∀ v W, P 3 v W ↔ (v = .slice aV nV cV)) := Lib.hid fun v W => by rw [hP] <;> exact Iff.rfl
      have HPI4 : Hid (∀ v W, P 4 v W ↔ (v = .int .i64 (nV : Int))) := Lib.hid fun v W => by rw [hP] <;> exact Iff.rfl
      have HPI5 : Hid (∀ v W, P 5 v W ↔ (v = .int .i64 ((nV : Int) + 1))) := Lib.hid fun v W => by rw [hP] <;> exact Iff.rfl
      have HPI6 : Hid (∀ v W, P 6 v W ↔ (v = .int .i64 d)) := Lib.hid fun v W => by rw [hP] <;> exact Iff.rfl
      have HPI7 : Hid (∀ v W, P 7 v W ↔ (v = .int .i64 ents)) := Lib.hid fun v W => by rw [hP] <;> exact Iff.rfl
      have HPI8 : Hid (∀ v W, P 8 v W ↔ (∃ pq, v = .agg (pstC pq).toArray ∧ (PstOk pq ∧ pq.num = (nV : Int) + 1 ∧ pq.day = d ∧ (pq.ent ≤ ents ∧ pq.amt ≤ 1000)))) := Lib.hid fun v W => by rw [hP] <;> exact Iff.rfl
      have HPI9 : Hid (∀ v W, P 9 v W ↔ (∃ aX nX cX, v = .tuple #[.agg #[.slice aX nX cX], .int .i64 0] ∧ PostedL l d ents (.slice aX nX cX) W)) := Lib.hid fun v W => by rw [hP] <;> exact Iff.rfl
      have HPI10 : Hid (∀ v W, P 10 v W ↔ (∃ aX nX cX, v = .tuple #[.agg #[.slice aX nX cX], .int .i64 0] ∧ PostedL l d ents (.slice aX nX cX) W)) := Lib.hid fun v W => by rw [hP] <;> exact Iff.rfl
      have HPI11 : Hid (∀ v W, P 11 v W ↔ (∃ aX nX cX, v = .agg #[.slice aX nX cX] ∧ PostedL l d ents (.slice aX nX cX) W)) := Lib.hid fun v W => by rw [hP] <;> exact Iff.rfl
      have HPI12 : Hid (∀ v W, P 12 v W ↔ (v = .int .i64 0)) := Lib.hid fun v W => by rw [hP] <;> exact Iff.rfl
      have HPI13 : Hid (∀ v W, P 13 v W ↔ (∃ bE, v = .pointer (some ⟨bE, 0, none⟩) ∧ LBox base bE W)) := Lib.hid fun v W => by rw [hP] <;> exact Iff.rfl
      have HPI15 : Hid (∀ v W, P 15 v W ↔ (v = .int .i64 0)) := Lib.hid fun v W => by rw [hP] <;> exact Iff.rfl
      have HKP : Hid (∀ (j : Nat) v W W', Below W.heap.size W W' → P j v W → P j v W') := Lib.hid (by
        rw [hP]
        intro j v W W' hb h
        match j, h with
        | 0, h => exact h
        | 1, h => exact h
        | 2, h => exact h
        | 3, h => exact h
        | 4, h => exact h
        | 5, h => exact h
        | 6, h => exact h
        | 7, h => exact h
        | 8, ⟨pq, e, s0⟩ => exact ⟨pq, e, s0⟩
        | 9, ⟨aX, nX, cX, e, s0⟩ => exact ⟨aX, nX, cX, e, s0.below hb⟩
        | 10, ⟨aX, nX, cX, e, s0⟩ => exact ⟨aX, nX, cX, e, s0.below hb⟩
        | 11, ⟨aX, nX, cX, e, s0⟩ => exact ⟨aX, nX, cX, e, s0.below hb⟩
        | 12, h => exact h
        | 13, ⟨bE, e, s0⟩ => exact ⟨bE, e, s0.below hb⟩
        | 14, _ => trivial
        | 15, h => exact h
        | j + 16, _ => trivial)
      have HKT : Hid (∀ (j : Nat) v W W', SrcAt W tb → W.grownBy W' (some tb) → P j v W → P j v W') := Lib.hid (by
        rw [hP]
        intro j v W W' hs hg h
        match j, h with
        | 0, h => exact h
        | 1, h => exact h
        | 2, h => exact h
        | 3, h => exact h
        | 4, h => exact h
        | 5, h => exact h
        | 6, h => exact h
        | 7, h => exact h
        | 8, ⟨pq, e, s0⟩ => exact ⟨pq, e, s0⟩
        | 9, ⟨aX, nX, cX, e, s0⟩ => exact ⟨aX, nX, cX, e, s0.turn hs hg⟩
        | 10, ⟨aX, nX, cX, e, s0⟩ => exact ⟨aX, nX, cX, e, s0.turn hs hg⟩
        | 11, ⟨aX, nX, cX, e, s0⟩ => exact ⟨aX, nX, cX, e, s0.turn hs hg⟩
        | 12, h => exact h
        | 13, ⟨bE, e, s0⟩ => exact ⟨bE, e, s0.turn HTB2.out hg⟩
        | 14, _ => trivial
        | 15, h => exact h
        | j + 16, _ => trivial)
      have HKL : Hid (∀ (j : Nat) v W W' b0, Lone W b0 → W.grownBy W' (some b0) → (∀ b, LBox base b W → LBox base b W') → P j v W → P j v W') := Lib.hid (by
        rw [hP]
        intro j v W W' b0 hl hg hke h
        match j, h with
        | 0, h => exact h
        | 1, h => exact h
        | 2, h => exact h
        | 3, h => exact h
        | 4, h => exact h
        | 5, h => exact h
        | 6, h => exact h
        | 7, h => exact h
        | 8, ⟨pq, e, s0⟩ => exact ⟨pq, e, s0⟩
        | 9, ⟨aX, nX, cX, e, s0⟩ => exact ⟨aX, nX, cX, e, s0.keep hl hg⟩
        | 10, ⟨aX, nX, cX, e, s0⟩ => exact ⟨aX, nX, cX, e, s0.keep hl hg⟩
        | 11, ⟨aX, nX, cX, e, s0⟩ => exact ⟨aX, nX, cX, e, s0.keep hl hg⟩
        | 12, h => exact h
        | 13, ⟨bE, e, s0⟩ => exact ⟨bE, e, hke _ s0⟩
        | 14, _ => trivial
        | 15, h => exact h
        | j + 16, _ => trivial)
      clear hP
      go_cut [12, 13] (fun pv ev wx => ∃ (bE : Nat) (aX : Option Addr) (nX cX : Nat), pv = .pointer (some ⟨bE, 0, none⟩) ∧ ev = .int .i64 0 ∧ base ≤ bE ∧ Hid (I wx) ∧ Hid (wx.heap[bE]? = some (.cells #[.slice aX nX cX] 27 (0, 0))) ∧ Hid (PostedL l d ents (.slice aX nX cX) wx))
      case first =>
        refine wp_region_store [32, 33, 34, 35, 36, 37, 38, 39, 40, 41, 31, 42, 43, 12, 13] (slotS [32, 33, 34, 35, 36, 37, 38, 39, 40, 41, 31, 42, 43, 12, 9999, 13]) (readsS [32, 33, 34, 35, 36, 37, 38, 39, 40, 41, 31, 42, 43, 12, 9999, 13]) (RP [32, 33, 34, 35, 36, 37, 38, 39, 40, 41, 31, 42, 43, 12, 9999, 13] P) I (fun f W => ∃ (bE : Nat) (aX : Option Addr) (nX cX : Nat), f 12 = .pointer (some ⟨bE, 0, none⟩) ∧ base ≤ bE ∧ I W ∧ W.heap[bE]? = some (.cells #[.slice aX nX cX] 27 (0, 0)) ∧ PostedL l d ents (.slice aX nX cX) W) 14 8 [12, 15] (by decide) (by kernel_rfl) (by kernel_rfl) (by kernel_rfl) (by kernel_rfl) (HID.out _ HI0.out) (fun j f q v W hq h => RP.upd hq h) ?_ ?_ ?_ ?_
        case refine_1 =>
          intro iq hiq hne f W hIW hdep0
          have hiq' : iq < 16 := hiq
          have hdep : ∀ j, j ≠ 14 → depB _ iq j = true → P j (f (slotS [32, 33, 34, 35, 36, 37, 38, 39, 40, 41, 31, 42, 43, 12, 9999, 13] j)) W := hdep0
          clear hdep0
          generalize ha1 : putsL _ [32, 33, 34, 35, 36, 37, 38, 39, 40, 41, 31, 42, 43, 12, 13] f = a1
          match iq, hiq', hne, hdep with
          | 0, _, _, hdep0 =>
            have E9 : a1.tmps[9]?.getD undef = .pointer (some ⟨bL, 0, none⟩) := by rw [← ha1]; exact (putsL_out2 _ _ _ _ (by decide)).trans rfl
            have v0 : W.cell? ⟨bL, 0, none⟩ = some (.slice aV nV cV) := by simpa using HCL.out W hIW 0
            exact wpOp_val rfl rfl (v := .agg #[.slice aV nV cV]) (w' := W) (by simp [execOp, go_sem, E9, v0]) ⟨hIW, fun _ h => h, _, by decide, rfl, RP.set ((HPI0.out _ _).2 rfl)⟩
          | 1, _, _, hdep0 =>
            have E0 : a1.tmps[0]?.getD undef = .pointer (some ⟨tb, 0, none⟩) := by rw [← ha1]; exact (putsL_out2 _ _ _ _ (by decide)).trans rfl
            exact wpOp_val rfl rfl (v := .pointer (some ⟨tb, 0, none⟩)) (w' := W) (by simp [execOp, go_sem, E0]) ⟨hIW, fun _ h => h, _, by decide, rfl, RP.set ((HPI1.out _ _).2 rfl)⟩
          | 2, _, _, hdep0 =>
            have E9 : a1.tmps[9]?.getD undef = .pointer (some ⟨bL, 0, none⟩) := by rw [← ha1]; exact (putsL_out2 _ _ _ _ (by decide)).trans rfl
            exact wpOp_val rfl rfl (v := .pointer (some ⟨bL, 0, none⟩)) (w' := W) (by simp [execOp, go_sem, E9]) ⟨hIW, fun _ h => h, _, by decide, rfl, RP.set ((HPI2.out _ _).2 rfl)⟩
          | 3, _, _, hdep0 =>
            have hd2 := (HPI2.out _ _).1 (hdep0 2 (by decide) (by kernel_rfl))
            have E34 : a1.tmps[34]?.getD undef = .pointer (some ⟨bL, 0, none⟩) := by rw [← ha1]; exact (putsL_in2 _ _ _ _ (by decide) (show 34 < 48 from by decide)).trans hd2
            have v0 : W.cell? ⟨bL, 0, none⟩ = some (.slice aV nV cV) := by simpa using HCL.out W hIW 0
            exact wpOp_val rfl rfl (v := .slice aV nV cV) (w' := W) (by simp [execOp, go_sem, E34, v0]) ⟨hIW, fun _ h => h, _, by decide, rfl, RP.set ((HPI3.out _ _).2 rfl)⟩
          | 4, _, _, hdep0 =>
            have hd3 := (HPI3.out _ _).1 (hdep0 3 (by decide) (by kernel_rfl))
            have E35 : a1.tmps[35]?.getD undef = .slice aV nV cV := by rw [← ha1]; exact (putsL_in2 _ _ _ _ (by decide) (show 35 < 48 from by decide)).trans hd3
            exact wpOp_val rfl rfl (v := .int .i64 (nV : Int)) (w' := W) (by simp [execOp, go_sem, E35]) ⟨hIW, fun _ h => h, _, by decide, rfl, RP.set ((HPI4.out _ _).2 rfl)⟩
          | 5, _, _, hdep0 =>
            have hd4 := (HPI4.out _ _).1 (hdep0 4 (by decide) (by kernel_rfl))
            have E36 : a1.tmps[36]?.getD undef = .int .i64 (nV : Int) := by rw [← ha1]; exact (putsL_in2 _ _ _ _ (by decide) (show 36 < 48 from by decide)).trans hd4
            exact wpOp_val rfl rfl (v := .int .i64 ((nV : Int) + 1)) (w' := W) (by simp [execOp, go_sem, E36, hnw]) ⟨hIW, fun _ h => h, _, by decide, rfl, RP.set ((HPI5.out _ _).2 rfl)⟩
          | 6, _, _, hdep0 =>
            have E10 : a1.tmps[10]?.getD undef = .int .i64 d := by rw [← ha1]; exact (putsL_out2 _ _ _ _ (by decide)).trans rfl
            exact wpOp_val rfl rfl (v := .int .i64 d) (w' := W) (by simp [execOp, go_sem, E10]) ⟨hIW, fun _ h => h, _, by decide, rfl, RP.set ((HPI6.out _ _).2 rfl)⟩
          | 7, _, _, hdep0 =>
            have E2 : a1.tmps[2]?.getD undef = .int .i64 ents := by rw [← ha1]; exact (putsL_out2 _ _ _ _ (by decide)).trans rfl
            exact wpOp_val rfl rfl (v := .int .i64 ents) (w' := W) (by simp [execOp, go_sem, E2]) ⟨hIW, fun _ h => h, _, by decide, rfl, RP.set ((HPI7.out _ _).2 rfl)⟩
          | 8, _, _, hdep0 =>
            have hd1 := (HPI1.out _ _).1 (hdep0 1 (by decide) (by kernel_rfl))
            have hd5 := (HPI5.out _ _).1 (hdep0 5 (by decide) (by kernel_rfl))
            have hd6 := (HPI6.out _ _).1 (hdep0 6 (by decide) (by kernel_rfl))
            have hd7 := (HPI7.out _ _).1 (hdep0 7 (by decide) (by kernel_rfl))
            have E33 : a1.tmps[33]?.getD undef = .pointer (some ⟨tb, 0, none⟩) := by rw [← ha1]; exact (putsL_in2 _ _ _ _ (by decide) (show 33 < 48 from by decide)).trans hd1
            have E37 : a1.tmps[37]?.getD undef = .int .i64 ((nV : Int) + 1) := by rw [← ha1]; exact (putsL_in2 _ _ _ _ (by decide) (show 37 < 48 from by decide)).trans hd5
            have E38 : a1.tmps[38]?.getD undef = .int .i64 d := by rw [← ha1]; exact (putsL_in2 _ _ _ _ (by decide) (show 38 < 48 from by decide)).trans hd6
            have E39 : a1.tmps[39]?.getD undef = .int .i64 ents := by rw [← ha1]; exact (putsL_in2 _ _ _ _ (by decide) (show 39 < 48 from by decide)).trans hd7
            refine wpOp_call rfl rfl (n := 37) (vs := #[.pointer (some ⟨tb, 0, none⟩), .int .i64 ((nV : Int) + 1), .int .i64 d, .int .i64 ents]) (by have := egS #[.pointer (some ⟨tb, 0, none⟩), .int .i64 ((nV : Int) + 1), .int .i64 d, .int .i64 ents] W; simp [execOp, E33, E37, E38, E39, resolve, invoke, go_sem] <;> exact this) ((HPK.out W hIW).mono fun e w' hh => (by obtain ⟨pq, rfl, p0, hJ', hb'⟩ := hh; exact ⟨_, rfl, (HPI8.out _ _).2 ⟨_, rfl, p0⟩, hJ', hb'⟩ : ∃ v, e = .returned v ∧ (P 8 v w' ∧ I w' ∧ SrcAt W tb ∧ W.grownBy w' (some tb)))) ?_
            rintro v w' ⟨hv, hI', hb'⟩
            exact ⟨hI', fun j h => HKT.out j _ _ _ hb'.1 hb'.2 h, _, by decide, rfl, RP.set hv⟩
          | 9, _, _, hdep0 =>
            have hd0 := (HPI0.out _ _).1 (hdep0 0 (by decide) (by kernel_rfl))
            have hd8 := (HPI8.out _ _).1 (hdep0 8 (by decide) (by kernel_rfl))
            have E32 : a1.tmps[32]?.getD undef = .agg #[.slice aV nV cV] := by rw [← ha1]; exact (putsL_in2 _ _ _ _ (by decide) (show 32 < 48 from by decide)).trans hd0
            obtain ⟨pq, q8, r8_0⟩ := hd8
            have E40 : a1.tmps[40]?.getD undef = .agg (pstC pq).toArray := by rw [← ha1]; exact (putsL_in2 _ _ _ _ (by decide) (show 40 < 48 from by decide)).trans q8
            refine wpOp_call rfl rfl (n := 45) (vs := #[.agg #[.slice aV nV cV], .agg (pstC pq).toArray]) (by have := egP #[.agg #[.slice aV nV cV], .agg (pstC pq).toArray] W; simp [execOp, E32, E40, resolve, invoke, go_sem] <;> exact this) ((HPO.out _ W hIW r8_0).mono fun e w' hh => (by obtain ⟨aX, nX, cX, rfl, p0, hJ', hb'⟩ := hh; exact ⟨_, rfl, (HPI9.out _ _).2 ⟨_, _, _, rfl, p0⟩, hJ', hb'⟩ : ∃ v, e = .returned v ∧ (P 9 v w' ∧ I w' ∧ Below W.heap.size W w'))) ?_
            rintro v w' ⟨hv, hI', hb'⟩
            exact ⟨hI', fun j h => HKP.out j _ _ _ hb' h, _, by decide, rfl, RP.set hv⟩
          | 10, _, _, hdep0 =>
            have hd9 := (HPI9.out _ _).1 (hdep0 9 (by decide) (by kernel_rfl))
            obtain ⟨aX, nX, cX, q9, r9_0⟩ := hd9
            have E41 : a1.tmps[41]?.getD undef = .tuple #[.agg #[.slice aX nX cX], .int .i64 0] := by rw [← ha1]; exact (putsL_in2 _ _ _ _ (by decide) (show 41 < 48 from by decide)).trans q9
            exact wpOp_val rfl rfl (v := .tuple #[.agg #[.slice aX nX cX], .int .i64 0]) (w' := W) (by simp [execOp, go_sem, E41]) ⟨hIW, fun _ h => h, _, by decide, rfl, RP.set ((HPI10.out _ _).2 ⟨_, _, _, rfl, r9_0⟩)⟩
          | 11, _, _, hdep0 =>
            have hd10 := (HPI10.out _ _).1 (hdep0 10 (by decide) (by kernel_rfl))
            obtain ⟨aX, nX, cX, q10, r10_0⟩ := hd10
            have E31 : a1.tmps[31]?.getD undef = .tuple #[.agg #[.slice aX nX cX], .int .i64 0] := by rw [← ha1]; exact (putsL_in2 _ _ _ _ (by decide) (show 31 < 48 from by decide)).trans q10
            exact wpOp_val rfl rfl (v := .agg #[.slice aX nX cX]) (w' := W) (by simp [execOp, go_sem, E31]) ⟨hIW, fun _ h => h, _, by decide, rfl, RP.set ((HPI11.out _ _).2 ⟨_, _, _, rfl, r10_0⟩)⟩
          | 12, _, _, hdep0 =>
            have hd10 := (HPI10.out _ _).1 (hdep0 10 (by decide) (by kernel_rfl))
            obtain ⟨aX, nX, cX, q10, r10_0⟩ := hd10
            have E31 : a1.tmps[31]?.getD undef = .tuple #[.agg #[.slice aX nX cX], .int .i64 0] := by rw [← ha1]; exact (putsL_in2 _ _ _ _ (by decide) (show 31 < 48 from by decide)).trans q10
            exact wpOp_val rfl rfl (v := .int .i64 0) (w' := W) (by simp [execOp, go_sem, E31]) ⟨hIW, fun _ h => h, _, by decide, rfl, RP.set ((HPI12.out _ _).2 rfl)⟩
          | 13, _, _, hdep0 =>
            exact wpOp_val rfl rfl (v := .pointer (some ⟨W.heap.size, 0, none⟩)) (w' := W.alloc (.cells #[.slice none 0 0] 27)) (by simp [execOp, go_sem]) ⟨(HIA.out _ _ hIW), fun j h => HKP.out j _ _ _ (below_alloc _ _) h, _, by decide, rfl, RP.set ((HPI13.out _ _).2 ⟨_, rfl, HBOX.out _ hIW⟩)⟩
          | 14, _, hne, _ => exact absurd rfl hne
          | 15, _, _, hdep0 =>
            have hd12 := (HPI12.out _ _).1 (hdep0 12 (by decide) (by kernel_rfl))
            have E43 : a1.tmps[43]?.getD undef = .int .i64 0 := by rw [← ha1]; exact (putsL_in2 _ _ _ _ (by decide) (show 43 < 48 from by decide)).trans hd12
            exact wpOp_val rfl rfl (v := .int .i64 0) (w' := W) (by simp [execOp, go_sem, E43]) ⟨hIW, fun _ h => h, _, by decide, rfl, RP.set ((HPI15.out _ _).2 rfl)⟩
          | iq + 16, h, _, _ => exact absurd h (by omega)
        case refine_2 =>
          intro iq hiq hfr f W hI1 hdep0
          have hdep : ∀ j, j ≠ 14 → depB _ iq j = true → P j (f (slotS [32, 33, 34, 35, 36, 37, 38, 39, 40, 41, 31, 42, 43, 12, 9999, 13] j)) W := hdep0
          clear hdep0
          generalize ha1 : putsL _ [32, 33, 34, 35, 36, 37, 38, 39, 40, 41, 31, 42, 43, 12, 13] f = a1
          simp only [List.mem_cons, List.mem_nil_iff, or_false] at hfr
          rcases hfr with rfl | rfl
          · have hdep0 := hdep
            have hd10 := (HPI10.out _ _).1 (hdep0 10 (by decide) (by kernel_rfl))
            obtain ⟨aX, nX, cX, q10, r10_0⟩ := hd10
            have E31 : a1.tmps[31]?.getD undef = .tuple #[.agg #[.slice aX nX cX], .int .i64 0] := by rw [← ha1]; exact (putsL_in2 _ _ _ _ (by decide) (show 31 < 48 from by decide)).trans q10
            exact wpOp_val rfl rfl (v := .int .i64 0) (w' := W) (by simp [execOp, go_sem, E31]) ⟨rfl, _, by decide, rfl, RP.set ((HPI12.out _ _).2 rfl), (by obtain ⟨bE, aX, nX, cX, h1, h2⟩ := hI1; exact ⟨bE, aX, nX, cX, (updF_other f _ (by decide)).trans h1, h2⟩)⟩
          · have hdep0 := hdep
            have hd12 := (HPI12.out _ _).1 (hdep0 12 (by decide) (by kernel_rfl))
            have E43 : a1.tmps[43]?.getD undef = .int .i64 0 := by rw [← ha1]; exact (putsL_in2 _ _ _ _ (by decide) (show 43 < 48 from by decide)).trans hd12
            exact wpOp_val rfl rfl (v := .int .i64 0) (w' := W) (by simp [execOp, go_sem, E43]) ⟨rfl, _, by decide, rfl, RP.set ((HPI15.out _ _).2 rfl), (by obtain ⟨bE, aX, nX, cX, h1, h2⟩ := hI1; exact ⟨bE, aX, nX, cX, (updF_other f _ (by decide)).trans h1, h2⟩)⟩
        case refine_3 =>
          intro f W hIW hdep0
          have hdep : ∀ j, j < 16 → j ≠ 14 → ([12, 15] : List Nat).contains j = false → P j (f (slotS [32, 33, 34, 35, 36, 37, 38, 39, 40, 41, 31, 42, 43, 12, 9999, 13] j)) W := hdep0
          have HRP : Hid (∀ j W', (∀ v, P j v W → P j v W') → RP [32, 33, 34, 35, 36, 37, 38, 39, 40, 41, 31, 42, 43, 12, 9999, 13] P j f W → RP [32, 33, 34, 35, 36, 37, 38, 39, 40, 41, 31, 42, 43, 12, 9999, 13] P j f W') := Lib.hid fun j W' h1 h2 => h1 _ h2
          clear hdep0
          generalize ha1 : putsL _ [32, 33, 34, 35, 36, 37, 38, 39, 40, 41, 31, 42, 43, 12, 13] f = a1
          obtain ⟨bE, q13, r13_0⟩ := ((HPI13.out _ _).1 (hdep 13 (by decide) (by decide) (by decide)))
          have E12 : a1.tmps[12]?.getD undef = .pointer (some ⟨bE, 0, none⟩) := by rw [← ha1]; exact (putsL_in2 _ _ _ _ (by decide) (show 12 < 48 from by decide)).trans q13
          obtain ⟨aX, nX, cX, q11, r11_0⟩ := ((HPI11.out _ _).1 (hdep 11 (by decide) (by decide) (by decide)))
          have E42 : a1.tmps[42]?.getD undef = .agg #[.slice aX nX cX] := by rw [← ha1]; exact (putsL_in2 _ _ _ _ (by decide) (show 42 < 48 from by decide)).trans q11
          obtain ⟨hbE1, z0, z1, z2, hbE2⟩ := r13_0
          have p0 := obj_cell hbE2 0
          have f0 := obj_free hbE2 0
          simp at p0
          have e12 : f 12 = .pointer (some ⟨bE, 0, none⟩) := q13
          have hg : W.grownBy (W.setCell ⟨bE, 0, none⟩ (.slice aX nX cX)) (some bE) := setCell_grown _ _
          have hl := lone_ldg hbE2
          have hset := obj_set hbE2 0 (.slice aX nX cX)
          simp only [List.setIfInBounds_toArray, List.set_cons_zero] at hset
          exact wpOp_skip rfl rfl (w' := W.setCell ⟨bE, 0, none⟩ (.slice aX nX cX)) (by simp [execOp, go_sem, E12, E42, p0, f0]) ⟨rfl, ⟨bE, aX, nX, cX, e12, hbE1, HIP.out _ _ _ _ _ hIW hbE1 ⟨_, _, _, hbE2⟩, hset, r11_0.keep hl hg⟩, fun j h => HRP.out j _ (fun v h => HKL.out j v W _ bE hl hg (fun b hb => hb.put hbE2) h) h⟩
        case refine_4 =>
          intro f W hI1 hR
          have h13 := (HPI15.out _ _).1 (hR 15 (show 15 < 16 from by decide) (by decide))
          simp only [putsL, List.foldl_cons, List.foldl_nil, Act.put, List.setIfInBounds_toArray, List.set_cons_zero, List.set_cons_succ]
          obtain ⟨bE, aX, nX, cX, h1, h2, h3, h4, h5⟩ := hI1
          go_wp2
          go_meet
          exact ⟨bE, aX, nX, cX, (by first | exact h1 | rfl), (by first | exact h13 | rfl), h2, Lib.hid h3, Lib.hid h4, Lib.hid h5⟩
      case rest =>
        obtain ⟨bE, aX, nX, cX, rfl, rfl, hbE, HI9, HBE, HPB⟩ := hcut
        clear HPO HPK HBOX HCL HIP HIA HID HIB HI0
        have HD9 := Lib.hid (HIO.out _ HI9.out).1
        obtain ⟨q, q1, q2, q3, q4, q5⟩ := HPB.out
        have HQ5 := Lib.hid q5
        have HNX : Hid (nX = (l ++ [q]).length) := Lib.hid (by
          obtain ⟨a0, c0, h0, -, -⟩ := PstsAt.open q5
          injection h0 with _ h0 _)
        have HL2 : Hid (LdgIn (l ++ [q]) ents d) := Lib.hid ⟨HLD.out.ok.snoc (by rw [← HNV.out]; exact hnv4) q1 q2 (by rw [q3]; exact Int.le_trans HLD.out.day hdd.1), fun p hp => by
          rw [List.mem_append] at hp
          rcases hp with hp | hp
          · exact HLD.out.ent p hp
          · simp at hp; rw [hp]; exact q4, by rw [lastP_snoc, q3]; exact Int.le_refl _⟩
        have HLK2 : Hid ((((l ++ [q]).length : Nat) : Int) + (k - 1) ≤ most) := Lib.hid (by have := HLK.out; simp; omega)
        have hex := HBE.out
        have g0 := obj_cell hex 0
        simp at g0
        have hA := HD9.out.box
        have s0 := obj_cell hA 0
        have f0 := obj_free hA 0
        simp at s0
        have hg : wc.grownBy (wc.setCell ⟨bL, 0, none⟩ (.slice aX nX cX)) (some bL) := setCell_grown _ _
        have hl := lone_ldg hA
        have hset := obj_set hA 0 (.slice aX nX cX)
        simp only [List.setIfInBounds_toArray, List.set_cons_zero] at hset
        have HD10 : Hid (LgI w0 tb bL (.slice aX nX cX) (l ++ [q]) (wc.setCell ⟨bL, 0, none⟩ (.slice aX nX cX))) := Lib.hid ⟨HD9.out.si.set HD9.out.out _ _, hset, PstsAt.keep HQ5.out hl hg, HD9.out.ne, HD9.out.out⟩
        have hwk : IntKind.i64.wrap (k - 1) = k - 1 := IntWalk.i64_in _ (by have := HLK.out; omega)
        clear hex hA hset hg hl q1 q2 q3 q4 q5
        go_wp2
        go_roundw
        case rel => exact ⟨l ++ [q], k - 1, d, aX, nX, cX, rfl, by first | rfl | go_num, by omega, hdd.2.2, hdd.2.1, HLK2, HNX, HL2, HD10⟩
        case measure => simp [RowKit.intOf]; omega
    · have hkf : ¬ 0 < k := hk
      have hx := HI.out.box
      have s0 := obj_cell hx 0
      simp at s0
      have hr := (HI.out.si.old.block _ (obj_lt HR0.out) (by simp [hrne])).trans HR0.out
      have t0 := obj_cell hr 0
      have f0 := obj_free hr 0
      simp at t0
      have HHR := Lib.hid hr
      have hfin := HI.out
      have hln := HLD.out
      clear hx hr
      go_wp2
      have hset := obj_set HHR.out 0 (.slice aV nV cV)
      simp only [List.setIfInBounds_toArray, List.set_cons_zero] at hset
      have y0 := obj_cell hset 0
      simp at y0
      have hg : wr.grownBy (wr.setCell ⟨w.heap.size, 0, none⟩ (.slice aV nV cV)) (some w.heap.size) := setCell_grown _ _
      refine bodyPost_ret (v := .agg #[.slice aV nV cV]) (by simp [results, Try.results23, go_sem, y0]) rfl ⟨l, _, rfl, ⟨hln.ok, hln.ent, Int.le_trans hln.day hd1⟩, by have := HLK.out; omega, PstsAt.keep hfin.rows (lone_ldg HHR.out) hg, (HEND.out _ hfin.si).set (Nat.le_refl _) _ _⟩

end Go.Proofs.Ytoccnindkimjdaa
