/- The source's Account, and the statements' own example. -/
import Derived.Test.YtoelidndnajedabMAcI
import Derived.Test.YtoelidndnajedabMAcPo
import Derived.Deep.RegionHeld3
set_option linter.unusedSimpArgs false
set_option linter.unusedVariables false
set_option linter.unusedSimpArgs false
set_option linter.unusedVariables false
namespace Go.Proofs.Ytoelidndnajedab
open Go.RowKit Go.Lib Go.Proofs

/-- No two numbers stand side by side in the block. -/
def Lone (w : World) (b : Nat) : Prop := ∀ (o : Nat) (x y : Int), w.cell? ⟨b, o, none⟩ = some (.int .i64 x) → w.cell? ⟨b, o + 1, none⟩ = some (.int .i64 y) → False
theorem lone_acc {w : World} {b : Nat} {x : Int} {aS aE : Option Addr} {nS nE cS cE : Nat} (h : w.heap[b]? = some (.cells #[.int .i64 x, .slice aS nS cS, .slice aE nE cE] 56 (0, 0))) : Lone w b := by
  intro o y z h0 h1
  rw [obj_cell h] at h0 h1
  match o with
  | 0 => simp at h1
  | 1 => simp at h0
  | 2 => simp at h0
  | o + 3 => simp at h0
theorem SubsAt.keep {w w' : World} {v : Value} {l : List SubA} {b0 : Nat} (h : SubsAt w v l) (hs : Lone w b0) (hg : w.grownBy w' (some b0)) : SubsAt w' v l := by
  have h' := h
  rcases h.open with ⟨rfl, ao, cap, rfl⟩ | ⟨hpos, b, o, cap, rfl, hcap, hb, hc⟩
  · obtain ⟨h1, ao', cap', h2, h3, h4⟩ := h'
    exact ⟨h1, ao', cap', h2, h3, Or.inl rfl⟩
  · obtain ⟨h1, ao', cap', h2, h3, h4⟩ := h'
    refine ⟨h1, ao', cap', h2, h3, ?_⟩
    injection h2 with e1 _ e3
    subst e1
    rcases h4 with h4 | ⟨b', o', e, hb', hc'⟩
    · exact Or.inl h4
    · injection e with e
      injection e with e4 e5 _
      subst e4 e5
      have hne : b ≠ b0 := fun e => by subst e; exact hs _ _ _ (hc 0 hpos).1 (hc 0 hpos).2
      refine Or.inr ⟨b, o, rfl, Nat.lt_of_lt_of_le hb' hg.size, fun j hj => ?_⟩
      rw [← hc' j hj]
      unfold World.cell?
      simp only
      rw [hg.block b hb' (by simp [hne])]
theorem EntsAt.keep {w w' : World} {v : Value} {l : List Ent} {b0 : Nat} (h : EntsAt w v l) (hs : Lone w b0) (hg : w.grownBy w' (some b0)) : EntsAt w' v l := by
  have h' := h
  rcases h.open with ⟨rfl, ao, cap, rfl⟩ | ⟨hpos, b, o, cap, rfl, hcap, hb, hc⟩
  · obtain ⟨h1, ao', cap', h2, h3, h4⟩ := h'
    exact ⟨h1, ao', cap', h2, h3, Or.inl rfl⟩
  · obtain ⟨h1, ao', cap', h2, h3, h4⟩ := h'
    refine ⟨h1, ao', cap', h2, h3, ?_⟩
    injection h2 with e1 _ e3
    subst e1
    rcases h4 with h4 | ⟨b', o', e, hb', hc'⟩
    · exact Or.inl h4
    · injection e with e
      injection e with e4 e5 _
      subst e4 e5
      have hne : b ≠ b0 := fun e => by subst e; exact hs _ _ _ (hc 0 hpos 0 (by omega)) (hc 0 hpos 1 (by omega))
      refine Or.inr ⟨b, o, rfl, Nat.lt_of_lt_of_le hb' hg.size, fun j hj => ?_⟩
      rw [← hc' j hj]
      unfold World.cell?
      simp only
      rw [hg.block b hb' (by simp [hne])]

theorem nums_box {W : World} {b : Nat} {cs : Array Value} {T : TypeId} (h : W.heap[b]? = some (.cells cs T (0, 0))) (l : List Int) (hcs : cs.toList = cellsI l) (n c : Nat) (hn : n = l.length) (hc : n ≤ c) : NumsAt W (.slice (some ⟨b, 0, none⟩) n c) l := by
  subst hn
  refine ⟨by simp [cellsI], _, c, rfl, hc, Or.inr ⟨b, 0, rfl, obj_lt h, fun j _ => ?_⟩⟩
  rw [Nat.zero_add, obj_cell h, ← hcs]
  simp

/-- A world beside a source: an account in a box of its own, the place of the result. -/
structure AI (w : World) (tb bA : Nat) (a : Acc) (su en : Value) (W : World) : Prop where
  si : SI w tb W
  res : W.heap[w.heap.size]? = some (.cells #[.int .i64 0, .slice none 0 0, .slice none 0 0] 56 (0, 0))
  box : W.heap[bA]? = some (.cells #[.int .i64 a.credit, su, en] 56 (0, 0))
  subs : SubsAt W su a.subs
  ents : EntsAt W en a.ents
  far : w.heap.size < bA
theorem AI.below {w : World} {tb bA : Nat} {a : Acc} {su en : Value} {A B : World} (h : AI w tb bA a su en A) (hb : Below A.heap.size A B) : AI w tb bA a su en B :=
  ⟨h.si.below hb, obj_below h.res hb, obj_below h.box hb, h.subs.below hb, h.ents.below hb, h.far⟩
theorem AI.turn {w : World} {tb bA : Nat} {a : Acc} {su en : Value} {A B : World} (h : AI w tb bA a su en A) (hi : SI w tb B) (hg : A.grownBy B (some tb)) : AI w tb bA a su en B :=
  ⟨hi, obj_turn h.res hg (by have := h.si.lt; omega), obj_turn h.box hg (by have := h.si.lt; have := h.far; omega), h.subs.turn h.si.src hg, h.ents.turn h.si.src hg, h.far⟩

/-- All that stood elsewhere stands as it was. -/
def Keep (tb : Nat) (A B : World) : Prop := ∀ (bx : Nat) (o : Obj), bx ≠ tb → A.heap[bx]? = some o → B.heap[bx]? = some o
theorem keep_turn {tb : Nat} {A B : World} (h : A.grownBy B (some tb)) : Keep tb A B := fun bx o hne ho => obj_turn ho h hne
theorem keep_below {tb : Nat} {A B : World} (h : Below A.heap.size A B) : Keep tb A B := fun bx o _ ho => obj_below ho h

/-- What a post leaves: a new account, or an error. -/
def Posted (a : Acc) (x : Ent) (c z : Int) (U V : Value) (W : World) : Prop := (c = 0 ∧ ∃ b, postM a x = .ok b ∧ z = b.credit ∧ SubsAt W U b.subs ∧ EntsAt W V b.ents) ∨ c ≠ 0
theorem Posted.below {a : Acc} {x : Ent} {c z : Int} {U V : Value} {A B : World} (h : Posted a x c z U V A) (hb : Below A.heap.size A B) : Posted a x c z U V B := by
  rcases h with ⟨h1, b, h2, h3, h4, h5⟩ | h
  · exact Or.inl ⟨h1, b, h2, h3, h4.below hb, h5.below hb⟩
  · exact Or.inr h
theorem Posted.keep {a : Acc} {x : Ent} {c z : Int} {U V : Value} {A B : World} {b0 : Nat} (h : Posted a x c z U V A) (hs : Lone A b0) (hg : A.grownBy B (some b0)) : Posted a x c z U V B := by
  rcases h with ⟨h1, b, h2, h3, h4, h5⟩ | h
  · exact Or.inl ⟨h1, b, h2, h3, h4.keep hs hg, h5.keep hs hg⟩
  · exact Or.inr h
theorem postM_err {a : Acc} {x : Ent} {c : Int} (hp : postM a x = .error c) : c ≠ 0 := by
  intro hc0
  unfold postM at hp
  split at hp
  · rename_i hn; injection hp with hp; exact hn (hp.trans hc0)
  · split at hp
    · injection hp with hp; omega
    · split at hp
      · rename_i c' hc'
        injection hp with hp
        exact addM_err hc' (hp.trans hc0)
      · cases hp
theorem posted_of {a : Acc} {x : Ent} {W w' : World} {e : Ending} (h : PostPost W (postM a x) e w') : ∃ (c z : Int) (aU aV : Option Addr) (nU cU nV cV : Nat), e = .returned (.tuple #[.agg #[.int .i64 z, .slice aU nU cU, .slice aV nV cV], .int .i64 c]) ∧ Below W.heap.size W w' ∧ Posted a x c z (.slice aU nU cU) (.slice aV nV cV) w' := by
  cases hp : postM a x with
  | ok b =>
    rw [hp] at h
    obtain ⟨su, en, h1, h2, h3, h4⟩ := h
    obtain ⟨aU, cU, rfl, -, -⟩ := h2.shape
    obtain ⟨aV, cV, rfl, -, -⟩ := h3.shape
    exact ⟨0, b.credit, aU, aV, _, cU, _, cV, h1, h4, Or.inl ⟨rfl, b, hp, rfl, h2, h3⟩⟩
  | error c =>
    rw [hp] at h
    obtain ⟨h1, h2⟩ := h
    exact ⟨c, 0, none, none, 0, 0, 0, 0, h1, h2, Or.inr (postM_err hp)⟩
/-- The end of a region that posts and keeps the result in a new box. -/
def DrawnR (I : World → Prop) (bA : Nat) (R : Int → Int → Int → Value → Value → World → Prop) (p cv : Value) (W : World) : Prop := ∃ (bx : Nat) (x c z : Int) (aU aV : Option Addr) (nU cU nV cV : Nat), p = .pointer (some ⟨bx, 0, none⟩) ∧ cv = .int .i64 c ∧ Hid (I W) ∧ Hid (W.heap[bx]? = some (.cells #[.int .i64 z, .slice aU nU cU, .slice aV nV cV] 56 (0, 0))) ∧ Hid (bx ≠ bA) ∧ Hid (R x c z (.slice aU nU cU) (.slice aV nV cV) W)

/-- What Account hands back. -/
def AccPost (tb most : Nat) (w : World) (e : Ending) (w' : World) : Prop := ∃ (a : Acc) (su en : Value), e = .returned (.agg #[.int .i64 a.credit, su, en]) ∧ Made a [1, 2, 3, 7] most 500 (2 * (most : Int)) ∧ SubsAt w' su a.subs ∧ EntsAt w' en a.ents ∧ SI w tb w' ∧ (a.credit = 0 ∨ a.credit = 50)

theorem open_four {c : Int} (h : c ∈ ([0, 0, 50] : List Int)) : ∃ b, openM [1, 2, 3, 7] c = .ok b ∧ Made b [1, 2, 3, 7] 0 500 0 ∧ (b.credit = 0 ∨ b.credit = 50) := by
  have hc : c = 0 ∨ c = 50 := by simp at h; omega
  have key : ∃ b, openM [1, 2, 3, 7] c = .ok b := by rcases hc with rfl | rfl <;> exact ⟨_, rfl⟩
  obtain ⟨b, hb⟩ := key
  obtain ⟨h1, h2, h3, h4⟩ := openM_right hb
  refine ⟨b, hb, ⟨h1, h2, by rw [h3]; simp, by rw [h3]; simp, by rw [h3]; exact Int.le_refl _⟩, ?_⟩
  rw [h4]
  exact hc

set_option maxRecDepth 100000 in
set_option maxHeartbeats 16000000 in
theorem sAccount_any (tb most : Nat) (w : World) (ht : SrcAt w tb) (hm : most ≤ 100) : Calls Try.prog 19 #[.pointer (some ⟨tb, 0, none⟩), .int .i64 (most : Int)] w (AccPost tb most w) := by
  have HS0 := Lib.hid (si_start ht)
  have HR0 := Lib.hid (heap_alloc_new w (.cells #[.int .i64 0, .slice none 0 0, .slice none 0 0] 56))
  have HN := Lib.hid (fun W (h : SI w tb W) => n_in h ((most : Int) + 1) (by omega) (by omega))
  have HN3 := Lib.hid (fun W (h : SI w tb W) => n_in h 3 (by omega) (by omega))
  have HI1 := Lib.hid ((HS0.out.alloc (.cells #[.int .i64 0, .slice none 0 0, .slice none 0 0] 56)).alloc (.cells #[.int .i64 1, .int .i64 2, .int .i64 3, .int .i64 7] 3))
  have HR1 := Lib.hid (obj_below HR0.out (below_alloc _ (.cells #[.int .i64 1, .int .i64 2, .int .i64 3, .int .i64 7] 3)))
  have HL1 := Lib.hid (alloc2_at w (.cells #[.int .i64 0, .slice none 0 0, .slice none 0 0] 56) (.cells #[.int .i64 1, .int .i64 2, .int .i64 3, .int .i64 7] 3))
  have hmi : (0 : Int) ≤ (most : Int) := by omega
  have htl : tb < w.heap.size := ht.lt
  have HTL : Hid (tb < w.heap.size) := Lib.hid htl
  clear ht htl
  go_enter Try.func19, Try.ntmps19
  go_wp2_with fail
  with_reducible refine Calls.mono (pick_in _ [0, 0, 50] _ _ rfl HI1.out (by simp) (by simp) _ rfl _ (by simp)) ?_
  rintro e w1 ⟨c, rfl, hc, hi2, hg2⟩
  obtain ⟨b, hb0, hb1, hb2⟩ := open_four hc
  have HSI1 := Lib.hid hi2
  have HRB1 := Lib.hid (obj_turn (obj_below HR1.out (below_alloc _ _)) hg2 (by have := HTL.out; omega))
  have HLB1 : Hid (w1.heap[w.heap.size + 1]? = some (.cells #[.int .i64 1, .int .i64 2, .int .i64 3, .int .i64 7] 3 (0, 0))) := Lib.hid (obj_turn (obj_below HL1.out (below_alloc _ _)) hg2 (by have := HTL.out; omega))
  have HOP := Lib.hid (raOpen_any (.slice (some ⟨w.heap.size + 1, 0, none⟩) 4 4) [1, 2, 3, 7] c w1 (nums_box HLB1.out [1, 2, 3, 7] rfl 4 4 rfl (by omega)) (by simp))
  rw [hb0] at HOP
  have HMD := Lib.hid hb1
  have HCR := Lib.hid hb2
  clear hc hi2 hg2 hb0 hb1 hb2 HI1 HR0 HR1 HL1 HS0 HLB1
  go_wp2_with fail
  refine (HOP.out).mono ?_
  rintro e w2 ⟨su, en, rfl, hs2, he2, hb2⟩
  obtain ⟨aS, cS, rfl, -, -⟩ := hs2.shape
  obtain ⟨aE, cE, rfl, -, -⟩ := he2.shape
  have HA2 : Hid (AI w tb w2.heap.size b (.slice aS b.subs.length cS) (.slice aE b.ents.length cE) (w2.alloc (.cells #[.int .i64 b.credit, .slice aS b.subs.length cS, .slice aE b.ents.length cE] 56))) := Lib.hid ⟨(HSI1.out.below hb2).alloc _, obj_below (obj_below HRB1.out hb2) (below_alloc _ _), heap_alloc_new _ _, hs2.below (below_alloc _ _), he2.below (below_alloc _ _), obj_lt (obj_below HRB1.out hb2)⟩
  clear hs2 he2 hb2 HOP HSI1 HRB1
  go_wp2_with fail
  with_reducible refine Calls.mono (HN.out _ HA2.out.si) ?_
  rintro e w3 ⟨k, rfl, k0, k1, hi3, hg3⟩
  have HA3 := Lib.hid (HA2.out.turn hi3 hg3)
  obtain ⟨k, rfl⟩ : ∃ n : Nat, k = n := ⟨k.toNat, by omega⟩
  have hkm : k ≤ most := by omega
  clear hi3 hg3 HA2 k0 k1 HN
  go_wp2
  generalize w2.heap.size = bA at *
  go_loopw [7, 8] (fun dv kv wr => ∃ (a : Acc) (su en : Value) (d : Int) (j : Nat), dv = .int .i64 d ∧ kv = .int .i64 j ∧ j ≤ most ∧ 0 ≤ d ∧ d ≤ 2 * ((most : Int) - (j : Int)) ∧ Hid (Made a [1, 2, 3, 7] (most - j) 500 d) ∧ Hid (a.credit = 0 ∨ a.credit = 50) ∧ Hid (AI w tb bA a su en wr)) (fun _ kv _ => (RowKit.intOf kv).toNat)
  case atStart => exact ⟨b, _, _, 0, k, rfl, rfl, hkm, by omega, by omega, Lib.hid (HMD.out.more (by omega) (by omega)), HCR, HA3⟩
  case round =>
    clear HMD HCR HA3
    obtain ⟨a, su, en, d, j, rfl, rfl, hjm, hd0, hd1, HMD, HCR, HA⟩ := hrel
    obtain ⟨aS, cS, rfl, -, -⟩ := HA.out.subs.shape
    obtain ⟨aE, cE, rfl, -, -⟩ := HA.out.ents.shape
    by_cases hj : 0 < j
    · have hj0 : (0 : Int) < (j : Int) := by omega
      go_wp2_with fail
      with_reducible refine Calls.mono (HN3.out _ HA.out.si) ?_
      rintro e w4 ⟨r, rfl, r0, r1, hi4, hg4⟩
      have HA4 := Lib.hid (HA.out.turn hi4 hg4)
      clear hi4 hg4 HA
      go_wp2_with fail
      with_reducible refine Calls.mono (pick_in _ [0, 0, 1, 2, 3, 7] _ _ rfl HA4.out.si (by simp) (by simp) _ rfl _ (by simp)) ?_
      rintro e w5 ⟨f, rfl, hf, hi5, hg5⟩
      have HA5 := Lib.hid ((HA4.out.below (below_alloc _ _)).turn hi5 hg5)
      clear hi5 hg5 HA4
      go_wp2_with fail
      with_reducible refine Calls.mono (pick_in _ [0, 1, 2, 3, 7] _ _ rfl HA5.out.si (by simp) (by simp) _ rfl _ (by simp)) ?_
      rintro e w6 ⟨t, rfl, ht, hi6, hg6⟩
      have HA6 := Lib.hid ((HA5.out.below (below_alloc _ _)).turn hi6 hg6)
      clear hi6 hg6 HA5 hf ht
      have hz := checkM_zero.1 HMD.out.right
      have hnum := right_number HMD.out.right
      have hlS : a.subs.length ≤ 20 := hz.1
      have hlE : a.ents.length ≤ 400 := hz.2.1
      have HPK : Hid (∀ W bb, AI w tb bA a (.slice aS a.subs.length cS) (.slice aE a.ents.length cE) W → W.heap[bb]? = some (.cells #[.int .i64 1, .int .i64 10, .int .i64 60, .int .i64 100, .int .i64 500] 3 (0, 0)) → tb < bb → Calls Try.prog 32 #[.pointer (some ⟨tb, 0, none⟩), .slice (some ⟨bb, 0, none⟩) 5 5] W fun e w' => ∃ x : Int, e = .returned (.int .i64 x) ∧ (1 ≤ x ∧ x ≤ 500) ∧ AI w tb bA a (.slice aS a.subs.length cS) (.slice aE a.ents.length cE) w' ∧ Keep tb W w') := Lib.hid fun W bb hW hbb hlt =>
        (sPick_any tb bb 5 [1, 10, 60, 100, 500] W hW.si.src hlt (obj_lt hbb) (by simp) (by simp) (fun i hi => by
          rw [obj_cell hbb]
          match i, hi with
          | 0, _ => rfl
          | 1, _ => rfl
          | 2, _ => rfl
          | 3, _ => rfl
          | 4, _ => rfl)).mono fun e w' ⟨x, h1, h2, h3, h4⟩ => ⟨x, h1, by simp at h2; omega, hW.turn (hW.si.turn h3 h4) h4, keep_turn h4⟩
      obtain ⟨nb, hnb⟩ : ∃ nb, nb = (lastE a.ents).number := ⟨_, rfl⟩
      have HNX : Hid (∀ x W, AI w tb bA a (.slice aS a.subs.length cS) (.slice aE a.ents.length cE) W → Calls Try.prog 44 #[.agg #[.int .i64 a.credit, .slice aS a.subs.length cS, .slice aE a.ents.length cE], .int .i64 (d + r), .int .i64 f, .int .i64 t, .int .i64 x, .int .i64 0] W fun e w' => e = .returned (.agg #[.int .i64 (nb + 1), .int .i64 (d + r), .int .i64 f, .int .i64 t, .int .i64 x, .int .i64 0]) ∧ AI w tb bA a (.slice aS a.subs.length cS) (.slice aE a.ents.length cE) w' ∧ Keep tb W w') := Lib.hid fun x W hW => by
        rw [hnb]
        exact (raNext_any a.ents a.credit _ _ (d + r) f t x 0 W hW.ents (by omega) (by omega) (by omega)).mono fun e w' h => ⟨h.1, hW.below h.2, keep_below h.2⟩
      have HPT : Hid (∀ x W, AI w tb bA a (.slice aS a.subs.length cS) (.slice aE a.ents.length cE) W → Calls Try.prog 43 #[.agg #[.int .i64 a.credit, .slice aS a.subs.length cS, .slice aE a.ents.length cE], .agg #[.int .i64 (nb + 1), .int .i64 (d + r), .int .i64 f, .int .i64 t, .int .i64 x, .int .i64 0]] W fun e w' => ∃ (c z : Int) (aU aV : Option Addr) (nU cU nV cV : Nat), e = .returned (.tuple #[.agg #[.int .i64 z, .slice aU nU cU, .slice aV nV cV], .int .i64 c]) ∧ AI w tb bA a (.slice aS a.subs.length cS) (.slice aE a.ents.length cE) w' ∧ Keep tb W w' ∧ Posted a ⟨nb + 1, d + r, f, t, x, 0⟩ c z (.slice aU nU cU) (.slice aV nV cV) w') := Lib.hid fun x W hW => by
        refine (raPost_any a ⟨nb + 1, d + r, f, t, x, 0⟩ _ _ W hW.subs hW.ents (by omega) (by omega)).mono ?_
        intro e w' h
        obtain ⟨c, z, aU, aV, nU, cU, nV, cV, h1, h2, h3⟩ := posted_of h
        exact ⟨c, z, aU, aV, nU, cU, nV, cV, h1, hW.below h2, keep_below h2, h3⟩
      obtain ⟨I, hI⟩ : ∃ I, I = AI w tb bA a (.slice aS a.subs.length cS) (.slice aE a.ents.length cE) := ⟨_, rfl⟩
      have HIA : Hid (∀ W, I W → AI w tb bA a (.slice aS a.subs.length cS) (.slice aE a.ents.length cE) W) := Lib.hid fun W hW => by rw [hI] at hW; exact hW
      have HI6 : Hid (I w6) := Lib.hid (by rw [hI]; exact HA6.out)
      rw [← hI] at HPK HNX HPT
      have HDR : Hid (∀ W, I W → I W.drew) := Lib.hid fun W hW => by rw [hI] at hW ⊢; exact hW.below (Below.refl _ _).drew
      have HAL : Hid (∀ W o, I W → I (W.alloc o)) := Lib.hid fun W o hW => by rw [hI] at hW ⊢; exact hW.below (below_alloc _ _)
      have HCL : Hid (∀ W, I W → ∀ i, W.cell? ⟨bA, i, none⟩ = #[.int .i64 a.credit, .slice aS a.subs.length cS, .slice aE a.ents.length cE][i]?) := Lib.hid fun W hW i => by rw [hI] at hW; exact obj_cell hW.box i
      have HTS : Hid (∀ W, I W → tb < W.heap.size ∧ w.heap.size < W.heap.size ∧ bA < W.heap.size) := Lib.hid fun W hW => by
        rw [hI] at hW
        have h1 := obj_lt hW.box
        have h2 := obj_lt hW.res
        have := hW.si.lt
        exact ⟨by omega, h2, h1⟩
      obtain ⟨R, hR⟩ : ∃ R : Int → Int → Int → Value → Value → World → Prop, R = fun x c z U V W => x ≤ 500 ∧ Posted a ⟨nb + 1, d + r, f, t, x, 0⟩ c z U V W := ⟨_, rfl⟩
      have HRD : Hid (∀ x c z U V W, R x c z U V W → x ≤ 500 ∧ Posted a (nextM a.ents (d + r) f t x 0) c z U V W) := Lib.hid fun x c z U V W h => by
        rw [hR] at h
        unfold nextM
        rw [← hnb]
        exact h
      have HRI : Hid (∀ x c z U V W, x ≤ 500 → Posted a ⟨nb + 1, d + r, f, t, x, 0⟩ c z U V W → R x c z U V W) := Lib.hid fun x c z U V W h1 h2 => by
        rw [hR]
        exact ⟨h1, h2⟩
      have HENDP : Hid (∀ (w9 : World) (bx : Nat) (x c z : Int) (aU aV : Option Addr) (nU cU nV cV : Nat), I w9 → w9.heap[bx]? = some (.cells #[.int .i64 0, .slice none 0 0, .slice none 0 0] 56 (0, 0)) → w.heap.size < bx → bx ≠ bA → R x c z (.slice aU nU cU) (.slice aV nV cV) w9 → DrawnR I bA R (.pointer (some ⟨bx, 0, none⟩)) (.int .i64 c) (put3 w9 bx (.int .i64 z) (.slice aU nU cU) (.slice aV nV cV))) := Lib.hid fun w9 bx x c z aU aV nU cU nV cV h1 h2 h3 h4 h5 => by
        rw [hI] at h1 ⊢
        have hg := put3_grown w9 bx (.int .i64 z) (.slice aU nU cU) (.slice aV nV cV)
        have hl := lone_acc h2
        refine ⟨bx, x, c, z, aU, aV, nU, cU, nV, cV, rfl, rfl, Lib.hid ⟨h1.si.grown hg (fun q e => by injection e with e; omega), ?_, ?_, h1.subs.keep hl hg, h1.ents.keep hl hg, h1.far⟩, Lib.hid (put3_at h2 rfl _ _ _), Lib.hid h4, Lib.hid ?_⟩
        · exact (hg.block _ (obj_lt h1.res) (by simp; omega)).trans h1.res
        · exact (hg.block _ (obj_lt h1.box) (by simp; omega)).trans h1.box
        · rw [hR] at h5 ⊢
          exact ⟨h5.1, h5.2.keep hl hg⟩
      have HENDA : Hid (∀ (w9 : World) (x c z : Int) (aU aV : Option Addr) (nU cU nV cV : Nat), I w9 → R x c z (.slice aU nU cU) (.slice aV nV cV) w9 → DrawnR I bA R (.pointer (some ⟨w9.heap.size, 0, none⟩)) (.int .i64 c) (w9.alloc (.cells #[.int .i64 z, .slice aU nU cU, .slice aV nV cV] 56))) := Lib.hid fun w9 x c z aU aV nU cU nV cV h1 h5 => by
        rw [hI] at h1 ⊢
        refine ⟨_, x, c, z, aU, aV, nU, cU, nV, cV, rfl, rfl, Lib.hid (h1.below (below_alloc _ _)), Lib.hid (heap_alloc_new _ _), Lib.hid ?_, Lib.hid ?_⟩
        · have := obj_lt h1.box; omega
        · rw [hR] at h5 ⊢
          exact ⟨h5.1, h5.2.below (below_alloc _ _)⟩
      clear hz hnum hlS hlE hnb HA6 hI hR
      have h40 : 0 ≤ d + r ∧ d + r ≤ 2 * ((most : Int) - ((j : Int) - 1)) := by omega
      go_upto_region 8 with fail
      generalize hdr : d + r = dd at *
      have HDD : Hid (d ≤ dd) := Lib.hid (by omega)
      clear hd0 hd1 r0 r1 hdr
      have HSL : Hid (∀ u : Unit, (w6.alloc (.cells #[.int .i64 1, .int .i64 10, .int .i64 60, .int .i64 100, .int .i64 500] 3)).heap[w6.heap.size]? = some (.cells #[.int .i64 1, .int .i64 10, .int .i64 60, .int .i64 100, .int .i64 500] 3 (0, 0))) := Lib.hid fun _ => heap_alloc_new _ _
      have HSZ : Hid (∀ u : Unit, ((w6.alloc (.cells #[.int .i64 1, .int .i64 10, .int .i64 60, .int .i64 100, .int .i64 500] 3)).alloc (.cells #[.int .i64 0, .slice none 0 0, .slice none 0 0] 56)).heap[w6.heap.size]? = some (.cells #[.int .i64 1, .int .i64 10, .int .i64 60, .int .i64 100, .int .i64 500] 3 (0, 0))) := Lib.hid fun _ => alloc1_at _ _ _
      have HZS : Hid (∀ u : Unit, ((w6.alloc (.cells #[.int .i64 0, .slice none 0 0, .slice none 0 0] 56)).alloc (.cells #[.int .i64 1, .int .i64 10, .int .i64 60, .int .i64 100, .int .i64 500] 3)).heap[w6.heap.size + 1]? = some (.cells #[.int .i64 1, .int .i64 10, .int .i64 60, .int .i64 100, .int .i64 500] 3 (0, 0))) := Lib.hid fun _ => alloc2_at _ _ _
      have HZ1 : Hid (∀ u : Unit, ((w6.alloc (.cells #[.int .i64 0, .slice none 0 0, .slice none 0 0] 56)).alloc (.cells #[.int .i64 1, .int .i64 10, .int .i64 60, .int .i64 100, .int .i64 500] 3)).heap[w6.heap.size]? = some (.cells #[.int .i64 0, .slice none 0 0, .slice none 0 0] 56 (0, 0))) := Lib.hid fun _ => alloc1_at _ _ _
      have HST : Hid (∀ (V : World) (bx : Nat) (v0 v1 v2 : Value), I V → bx ≠ bA → ∀ i, (((V.setCell ⟨bx, 0, none⟩ v0).setCell ⟨bx, 1, none⟩ v1).setCell ⟨bx, 2, none⟩ v2).cell? ⟨bA, i, none⟩ = #[.int .i64 a.credit, .slice aS a.subs.length cS, .slice aE a.ents.length cE][i]?) := Lib.hid fun V bx v0 v1 v2 hV hne i => by
        rw [← HCL.out V hV i]
        unfold World.cell?
        simp only
        have := (put3_grown V bx v0 v1 v2).block bA (HTS.out V hV).2.2 (by simp; omega)
        unfold put3 at this
        rw [this]
      have hnew := HI6.out
      have hcs := HCL.out _ hnew
      go_cut [11, 12] (fun p c wx => DrawnR I bA R p c wx)
      case first =>
        go_region_held3 (fun W => ∀ i, W.cell? ⟨bA, i, none⟩ = #[.int .i64 a.credit, .slice aS a.subs.length cS, .slice aE a.ents.length cE][i]?)
          (first | with_reducible assumption | ((with_reducible refine HST.out _ _ _ _ _ hinv9 ?_); first | (have := HTS.out _ hinv8; omega) | (have := HTS.out _ hinv7; omega) | (have := HTS.out _ hnew; omega)) | exact HCL.out _ (by with_reducible assumption) | exact HCL.out _ (HDR.out _ (by with_reducible assumption)) | exact HCL.out _ (HAL.out _ _ (by with_reducible assumption)) | exact HCL.out _ (HAL.out _ _ (HAL.out _ _ (by with_reducible assumption))) | exact HCL.out _ (HDR.out _ (HAL.out _ _ (by with_reducible assumption))) | exact HCL.out _ (HDR.out _ (HAL.out _ _ (HAL.out _ _ (by with_reducible assumption)))) | exact HCL.out _ (HDR.out _ (HDR.out _ (HAL.out _ _ (HAL.out _ _ (by with_reducible assumption))))))
          (first
            | (go_at_call 32; (with_reducible refine Calls.mono (HPK.out _ _ ?ia ?hb ?tl) ?_); (case ia => repeat (first | with_reducible assumption | with_reducible refine HAL.out _ _ ?_ | with_reducible refine HDR.out _ ?_)); (case hb => first | exact HSL.out () | exact HSZ.out () | exact HZS.out ()); (case tl => (have := HTS.out _ hnew; omega)); rintro e w7 ⟨x, rfl, hx, hinv7, hk7⟩)
            | (go_at_call 44; (with_reducible refine Calls.mono (HNX.out _ _ (by repeat (first | with_reducible assumption | with_reducible refine HAL.out _ _ ?_ | with_reducible refine HDR.out _ ?_))) ?_); rintro e w8 ⟨rfl, hinv8, hk8⟩)
            | (go_at_call 43; (with_reducible refine Calls.mono (HPT.out _ _ (by repeat (first | with_reducible assumption | with_reducible refine HAL.out _ _ ?_ | with_reducible refine HDR.out _ ?_))) ?_); rintro e w9 ⟨c, z, aU, aV, nU, cU, nV, cV, rfl, hinv9, hk9, HRES⟩
               have HRR := HRI.out _ _ _ _ _ _ hx.2 HRES
               (try (have q9 : w9.heap[w6.heap.size]? = some (.cells #[.int .i64 0, .slice none 0 0, .slice none 0 0] 56 (0, 0)) := hk9 _ _ (by have := HTS.out _ hnew; omega) (hk8 _ _ (by have := HTS.out _ hnew; omega) (hk7 _ _ (by have := HTS.out _ hnew; omega) (HZ1.out ())))
                     have HX9 : Hid (∃ V, I V ∧ V.heap.size ≤ w6.heap.size) := Lib.hid ⟨w6, hnew, Nat.le_refl _⟩))
               (try (have q9 : w9.heap[w6.heap.size + 1]? = some (.cells #[.int .i64 0, .slice none 0 0, .slice none 0 0] 56 (0, 0)) := hk9 _ _ (by have := HTS.out _ hnew; omega) (hk8 _ _ (by have := HTS.out _ hnew; omega) (hk7 _ _ (by have := HTS.out _ hnew; omega) (alloc2_at w6 _ (.cells #[.int .i64 0, .slice none 0 0, .slice none 0 0] 56))))
                     have HX9 : Hid (∃ V, I V ∧ V.heap.size ≤ w6.heap.size + 1) := Lib.hid ⟨w6, hnew, Nat.le_succ _⟩))
               (try (have q9 : w9.heap[w7.heap.size]? = some (.cells #[.int .i64 0, .slice none 0 0, .slice none 0 0] 56 (0, 0)) := hk9 _ _ (by have := HTS.out _ hinv7; omega) (hk8 _ _ (by have := HTS.out _ hinv7; omega) (heap_alloc_new w7 (.cells #[.int .i64 0, .slice none 0 0, .slice none 0 0] 56)))
                     have HX9 : Hid (∃ V, I V ∧ V.heap.size ≤ w7.heap.size) := Lib.hid ⟨w7, hinv7, Nat.le_refl _⟩))
               (try (have q9 : w9.heap[w8.heap.size]? = some (.cells #[.int .i64 0, .slice none 0 0, .slice none 0 0] 56 (0, 0)) := hk9 _ _ (by have := HTS.out _ hinv8; omega) (heap_alloc_new w8 (.cells #[.int .i64 0, .slice none 0 0, .slice none 0 0] 56))
                     have HX9 : Hid (∃ V, I V ∧ V.heap.size ≤ w8.heap.size) := Lib.hid ⟨w8, hinv8, Nat.le_refl _⟩))
               (try (have Q9 := Lib.hid q9
                     have p0 := obj_cell q9 0
                     have p1 := obj_cell q9 1
                     have p2 := obj_cell q9 2
                     have g0 := obj_free q9 0
                     have g1 := obj_free q9 1
                     have g2 := obj_free q9 2
                     simp at p0 p1 p2
                     clear q9))))
        all_goals
          go_wp2
          go_meet
          first
            | exact HENDA.out _ _ _ _ _ _ _ _ _ _ (by repeat (first | with_reducible assumption | with_reducible refine HAL.out _ _ ?_ | with_reducible refine HDR.out _ ?_)) (by assumption)
            | (obtain ⟨V9, hv9, hl9⟩ := HX9.out; exact HENDP.out _ _ _ _ _ _ _ _ _ _ _ hinv9 Q9.out (by have := HTS.out _ hv9; omega) (by have := HTS.out _ hv9; omega) HRR)
      case rest =>
        obtain ⟨bx, x, c, z, aU, aV, nU, cU, nV, cV, rfl, rfl, HIW, HXB, HNB, HRR⟩ := hcut
        obtain ⟨hx5, hpd⟩ := HRD.out _ _ _ _ _ _ HRR.out
        have HAW := Lib.hid (HIA.out _ HIW.out)
        have hbx := HAW.out.box
        have s0 := obj_cell hbx 0
        have s1 := obj_cell hbx 1
        have s2 := obj_cell hbx 2
        have f0 := obj_free hbx 0
        have f1 := obj_free hbx 1
        have f2 := obj_free hbx 2
        have hxb := HXB.out
        have p0 := obj_cell hxb 0
        have p1 := obj_cell hxb 1
        have p2 := obj_cell hxb 2
        have hnb := HNB.out
        simp at s0 s1 s2 p0 p1 p2
        clear hbx hxb HPK HNX HPT HI6 HDR HAL HCL HTS HENDP HENDA HST HSL HSZ HZS HZ1 HRD HRI HRR HIW hnew hcs HIA
        rcases hpd with ⟨rfl, b, hp, rfl, hs, he⟩ | hne
        · have HMB : Hid (Made b [1, 2, 3, 7] (most - (j - 1)) 500 dd) := Lib.hid (by
            have h1 := (HMD.out.more (Nat.le_refl _) HDD.out).post hp (by unfold nextM; exact hx5) (by unfold nextM; exact Int.le_refl _)
            have h2 : most - (j - 1) = most - j + 1 := by omega
            rw [h2]
            exact h1)
          have HCB : Hid (b.credit = 0 ∨ b.credit = 50) := Lib.hid (by rw [(postM_right hp).2.2.2.1]; exact HCR.out)
          have HAB : Hid (AI w tb bA b (.slice aU nU cU) (.slice aV nV cV) (put3 wc bA (.int .i64 b.credit) (.slice aU nU cU) (.slice aV nV cV))) := Lib.hid (by
            have hg := put3_grown wc bA (.int .i64 b.credit) (.slice aU nU cU) (.slice aV nV cV)
            have hl := lone_acc HAW.out.box
            have hfar := HAW.out.far
            exact ⟨HAW.out.si.grown hg (fun q e => by injection e with e; omega), (hg.block _ (obj_lt HAW.out.res) (by simp; omega)).trans HAW.out.res, put3_at HAW.out.box rfl _ _ _, hs.keep hl hg, he.keep hl hg, hfar⟩)
          clear hp hs he
          go_upto_region 5 with fail
          obtain ⟨W7, hW7⟩ : ∃ W, W = put3 wc bA (.int .i64 b.credit) (.slice aU nU cU) (.slice aV nV cV) := ⟨_, rfl⟩
          rw [← hW7] at HAB
          show Code.wp _ _ _ _ (put3 wc bA (.int .i64 b.credit) (.slice aU nU cU) (.slice aV nV cV))
          rw [← hW7]
          clear hW7 s0 s1 s2 f0 f1 f2 p0 p1 p2
          go_wp2
          go_roundw
          case rel => exact ⟨b, _, _, dd, j - 1, rfl, by (congr 1; omega), by omega, h40.1, by omega, HMB, HCB, HAB⟩
          case measure => simp [RowKit.intOf]; omega
        · have hc1 : (c == 0) = false := by rw [beq_eq_false_iff_ne]; exact hne
          have HMB : Hid (Made a [1, 2, 3, 7] (most - (j - 1)) 500 dd) := Lib.hid (HMD.out.more (by omega) HDD.out)
          clear hne s0 s1 s2 f0 f1 f2 p0 p1 p2
          go_wp2
          go_roundw
          case rel => exact ⟨a, _, _, dd, j - 1, rfl, by (congr 1; omega), by omega, h40.1, by omega, HMB, HCR, HAW⟩
          case measure => simp [RowKit.intOf]; omega
    · obtain rfl : j = 0 := by omega
      have hbx := HA.out.box
      have p0 := obj_cell hbx 0
      have p1 := obj_cell hbx 1
      have p2 := obj_cell hbx 2
      have hrb := HA.out.res
      have s0 := obj_cell hrb 0
      have s1 := obj_cell hrb 1
      have s2 := obj_cell hrb 2
      have f0 := obj_free hrb 0
      have f1 := obj_free hrb 1
      have f2 := obj_free hrb 2
      have hnb : bA ≠ w.heap.size := by have := HA.out.far; omega
      simp at s0 s1 s2 p0 p1 p2
      clear hbx hrb hd0 hj
      go_wp2
      show bodyPost Try.prog Try.f19 _ Exit.ret _ (put3 wr w.heap.size (.int .i64 a.credit) (.slice aS a.subs.length cS) (.slice aE a.ents.length cE))
      have hg := put3_grown wr w.heap.size (.int .i64 a.credit) (.slice aS a.subs.length cS) (.slice aE a.ents.length cE)
      have hl := lone_acc HA.out.res
      exact ret3 HA.out.res rfl _ _ _ (fun F hF => by
        have q0 := obj_cell hF 0
        have q1 := obj_cell hF 1
        have q2 := obj_cell hF 2
        simp [results, Try.results19, go_sem, q0, q1, q2]) rfl ⟨a, _, _, rfl, HMD.out.more (by omega) (by omega), HA.out.subs.keep hl hg, HA.out.ents.keep hl hg, HA.out.si.grown hg (fun q e => by injection e with e; omega), HCR.out⟩

end Go.Proofs.Ytoelidndnajedab
