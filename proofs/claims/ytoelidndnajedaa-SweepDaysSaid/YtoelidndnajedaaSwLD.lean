/- Sweeping every day, with money that comes between, keeps the account right and never changes its total by itself: for every tape. -/
import Derived.Test.YtoelidndnajedaaSwU
import Derived.Test.YtoelidndnajedaaAcSr
set_option linter.unusedSimpArgs false
set_option linter.unusedVariables false
namespace Go.Proofs.Ytoelidndnajedaa
open Go.RowKit Go.Lib Go.Proofs

theorem bal_le_sum {a : Acc} (h : checkM a = 0) (x : Int) : balOf a.subs x ≤ sumM a.subs + 1000000000000 := by
  by_cases hx : x = 1
  · subst hx
    have := main_le h
    omega
  · have h1 := main_two h hx
    have h2 := (balOf_range h 1).1
    omega

/-- An entry from outside, of the next number, is possible. -/
theorem in_ok {b : Acc} {day tt amount : Int} (h : checkM b = 0) (hl : b.ents.length < 400) (hd : (lastE b.ents).day ≤ day) (hd2 : 0 ≤ day) (hd3 : day ≤ 36000) (ha : 1 ≤ amount ∧ amount ≤ 1000000000000) (ht : (atS b.subs tt).isSome = true) (h2 : balOf b.subs tt + amount ≤ 1000000000000000) :
    ∃ c, postM b (nextM b.ents day 0 tt amount 0) = .ok c ∧ checkM c = 0 ∧ c.ents = b.ents ++ [nextM b.ents day 0 tt amount 0] ∧ c.credit = b.credit ∧ c.subs.map SubA.id = b.subs.map SubA.id ∧ sumM c.subs = sumM b.subs + amount := by
  have hz := checkM_zero.1 h
  have hnz := noZero_plain hz.2.2.1
  obtain ⟨j, hj⟩ := Option.isSome_iff_exists.1 ht
  have e2 : balOf b.subs tt = (subAt b.subs j).bal := by unfold balOf; rw [hj]
  have hto : tt ≠ 0 := fun h0 => by
    have := atS_some hj
    exact hnz _ (List.getElem_mem this.1) (by rw [← subAt_get this.1, this.2.1, h0])
  have hf0 : atS b.subs 0 = none := atS_none.2 fun s hs => hnz s hs
  have hfault : faultE b.subs (lastE b.ents) (nextM b.ents day 0 tt amount 0) = 0 := by
    unfold faultE nextM dayB' amtB
    simp only
    rw [if_neg (by omega), if_neg (by rw [inB_true.2 ⟨hd2, hd3⟩]; simp; omega), if_neg (by rw [inB_true.2 ⟨by omega, ha.2⟩]; simp; omega), if_neg]
    rintro (q | ⟨q, _⟩ | ⟨_, q⟩)
    · exact hto q.symm
    · exact q rfl
    · rw [hj] at q; cases q
  have t1 : takeM b.credit b.subs 0 amount = some b.subs := by unfold takeM; rw [hf0]
  have t2 : giveM b.subs tt amount = some (bump b.subs j amount) := by
    unfold giveM
    rw [hj]
    exact if_neg (by omega)
  have hadd : addM b.credit b.subs (lastE b.ents) (nextM b.ents day 0 tt amount 0) = .ok (bump b.subs j amount) := by
    unfold addM
    rw [if_pos hfault]
    simp only [nextM, t1, t2]
  have hpost : postM b (nextM b.ents day 0 tt amount 0) = .ok { b with subs := bump b.subs j amount, ents := b.ents ++ [nextM b.ents day 0 tt amount 0] } := by
    unfold postM
    rw [if_neg (by rw [h]; simp), if_neg (by omega), hadd]
  obtain ⟨_, p1, p2, p3, _, p4⟩ := postM_right hpost
  refine ⟨_, hpost, p1, p2, p3, addM_ids p4, ?_⟩
  exact sumM_bump _ _ _ (atS_some hj).1

/-- What came of an entry from outside. -/
def PostedIn (c : Acc) (d nn cb : Int) (U V : Value) (W : World) : Prop := ∃ (x : Int) (b : Acc), (x = 1 ∨ x = 2 ∨ x = 3 ∨ x = 7) ∧ postM c (nextM c.ents d 0 x nn 0) = .ok b ∧ cb = b.credit ∧ SubsAt W U b.subs ∧ EntsAt W V b.ents
theorem PostedIn.below {c : Acc} {d nn cb : Int} {U V : Value} {A B : World} (h : PostedIn c d nn cb U V A) (hb : Below A.heap.size A B) : PostedIn c d nn cb U V B := by
  obtain ⟨x, b, h1, h2, h3, h4, h5⟩ := h
  exact ⟨x, b, h1, h2, h3, h4.below hb, h5.below hb⟩
theorem PostedIn.keep {c : Acc} {d nn cb : Int} {U V : Value} {A B : World} {b0 : Nat} (h : PostedIn c d nn cb U V A) (hl : Lone A b0) (hg : A.grownBy B (some b0)) : PostedIn c d nn cb U V B := by
  obtain ⟨x, b, h1, h2, h3, h4, h5⟩ := h
  exact ⟨x, b, h1, h2, h3, h4.keep hl hg, h5.keep hl hg⟩
theorem PostedIn.turn {c : Acc} {d nn cb : Int} {U V : Value} {A B : World} {tb : Nat} (h : PostedIn c d nn cb U V A) (hs : SrcAt A tb) (hg : A.grownBy B (some tb)) : PostedIn c d nn cb U V B := by
  obtain ⟨x, b, h1, h2, h3, h4, h5⟩ := h
  exact ⟨x, b, h1, h2, h3, h4.turn hs hg, h5.turn hs hg⟩
/-- Four numbers in a block behind the source. -/
def SIn (tb b : Nat) (W : World) : Prop := tb < b ∧ W.heap[b]? = some (.cells #[.int .i64 1, .int .i64 2, .int .i64 3, .int .i64 7] 3 (0, 0))
theorem SIn.below {tb b : Nat} {A B : World} (h : SIn tb b A) (hb : Below A.heap.size A B) : SIn tb b B := ⟨h.1, obj_below h.2 hb⟩
theorem SIn.turn {tb b : Nat} {A B : World} (h : SIn tb b A) (hg : A.grownBy B (some tb)) : SIn tb b B := ⟨h.1, obj_turn h.2 hg (by have := h.1; omega)⟩
theorem SIn.keep {tb b b0 : Nat} {A B : World} (h : SIn tb b A) (hl : Lone A b0) (hg : A.grownBy B (some b0)) : SIn tb b B := by
  have hne : b ≠ b0 := fun e => by
    subst e
    exact hl 0 1 2 (by rw [obj_cell h.2]; rfl) (by rw [obj_cell h.2]; rfl)
  exact ⟨h.1, (hg.block b (obj_lt h.2) (by simp [hne])).trans h.2⟩
/-- Some account in a box. -/
def BoxAny (base b : Nat) (W : World) : Prop := base ≤ b ∧ ∃ (x : Int) (aS aE : Option Addr) (nS cS nE cE : Nat), W.heap[b]? = some (.cells #[.int .i64 x, .slice aS nS cS, .slice aE nE cE] 28 (0, 0))
theorem BoxAny.below {base b : Nat} {A B : World} (h : BoxAny base b A) (hb : Below A.heap.size A B) : BoxAny base b B := by
  obtain ⟨h1, x, aS, aE, nS, cS, nE, cE, h2⟩ := h
  exact ⟨h1, x, aS, aE, nS, cS, nE, cE, obj_below h2 hb⟩
theorem BoxAny.turn {base b tb : Nat} {A B : World} (h : BoxAny base b A) (ht : tb < base) (hg : A.grownBy B (some tb)) : BoxAny base b B := by
  obtain ⟨h1, x, aS, aE, nS, cS, nE, cE, h2⟩ := h
  exact ⟨h1, x, aS, aE, nS, cS, nE, cE, obj_turn h2 hg (by omega)⟩
theorem BoxAny.put {base b b0 : Nat} {A : World} (h : BoxAny base b A) {x : Int} {aS aE : Option Addr} {nS cS nE cE : Nat} {y : Int} {aX aY : Option Addr} {nX cX nY cY : Nat} (h0 : A.heap[b0]? = some (.cells #[.int .i64 y, .slice aX nX cX, .slice aY nY cY] 28 (0, 0))) : BoxAny base b (put3 A b0 (.int .i64 x) (.slice aS nS cS) (.slice aE nE cE)) := by
  obtain ⟨h1, x', aS', aE', nS', cS', nE', cE', h2⟩ := h
  by_cases hb : b = b0
  · subst hb
    exact ⟨h1, _, _, _, _, _, _, _, put3_at h2 rfl _ _ _⟩
  · exact ⟨h1, _, _, _, _, _, _, _, ((put3_grown A b0 _ _ _).block b (obj_lt h2) (by simp [hb])).trans h2⟩

theorem keeps_move {w w' : World} {v : Value} {l : List Kp} {b0 : Nat} (h : KeepsAt w v l) (hne : ∀ b o x y, w.cell? ⟨b, o, none⟩ = some (.int .i64 x) → w.cell? ⟨b, o + 1, none⟩ = some (.int .i64 y) → b ≠ b0) (hg : w.grownBy w' (some b0)) : KeepsAt w' v l := by
  obtain ⟨aK, cK, e0, hcap, hc⟩ := h.open
  obtain ⟨h1, ao', cap', h2, h3, h4⟩ := h
  refine ⟨h1, ao', cap', h2, h3, ?_⟩
  rcases h4 with h4 | ⟨b', o', e, hb', hc'⟩
  · exact Or.inl h4
  · by_cases hl : l.length = 0
    · exact Or.inl hl
    · obtain ⟨b, o, h5, h6, h7⟩ := hc (by omega)
      rw [e0] at h2
      injection h2 with h8 _ _
      rw [h5, e] at h8
      injection h8 with h8
      injection h8 with h9 h10 _
      subst h9 h10
      have k0 := h7 0 (by omega) 0 (by omega)
      have k1 := h7 0 (by omega) 1 (by omega)
      simp [kpC] at k0 k1
      have hb0 := hne _ _ _ _ k0 k1
      refine Or.inr ⟨b, o, e, Nat.lt_of_lt_of_le hb' hg.size, fun j hj => ?_⟩
      rw [← hc' j hj]
      unfold World.cell?
      simp only
      rw [hg.block b hb' (by simp [hb0])]
theorem KeepsAt.turn {w w' : World} {v : Value} {l : List Kp} {tb : Nat} (h : KeepsAt w v l) (hs : SrcAt w tb) (hg : w.grownBy w' (some tb)) : KeepsAt w' v l := keeps_move h (fun _ _ _ _ h0 h1 => not_src hs h0 h1) hg
theorem KeepsAt.keep {w w' : World} {v : Value} {l : List Kp} {b0 : Nat} (h : KeepsAt w v l) (hs : Lone w b0) (hg : w.grownBy w' (some b0)) : KeepsAt w' v l := keeps_move h (fun b o x y h0 h1 e => by subst e; exact hs _ _ _ h0 h1) hg

/-- A world within SweepDays. -/
structure DyI (w1 : World) (tb bA : Nat) (c : Acc) (su en kv : Value) (ks : List Kp) (W : World) : Prop where
  ax : AX w1 tb bA c su en W
  keeps : KeepsAt W kv ks
theorem DyI.below {w1 : World} {tb bA : Nat} {c : Acc} {su en kv : Value} {ks : List Kp} {A B : World} (h : DyI w1 tb bA c su en kv ks A) (hb : Below A.heap.size A B) : DyI w1 tb bA c su en kv ks B := ⟨h.ax.below hb, ListAt.below h.keeps hb⟩
theorem DyI.turn {w1 : World} {tb bA : Nat} {c : Acc} {su en kv : Value} {ks : List Kp} {A B : World} (h : DyI w1 tb bA c su en kv ks A) (hi : SI w1 tb B) (hg : A.grownBy B (some tb)) : DyI w1 tb bA c su en kv ks B := ⟨h.ax.turn hi hg, h.keeps.turn h.ax.si.src hg⟩

/-- What stays true of the account from day to day. -/
structure DyM (a : Acc) (k : Nat) (T : Int) (c : Acc) : Prop where
  right : checkM c = 0
  ids : c.subs.map SubA.id = [1, 2, 3, 7]
  len : c.ents.length ≤ 4 + 7 * k
  day : (lastE c.ents).day ≤ 30 + (k : Int)
  sum : sumM c.subs = T
  top : T ≤ 8000 + 400 * (k : Int)
theorem DyM.day_ok {a : Acc} {k : Nat} {T nn x : Int} {c b : Acc} {ks : List Kp} (h : DyM a k T c) (hk : k < 6) (hks : KeepsUp 3 ks) (hn : 1 ≤ nn ∧ nn ≤ 400) (hx : x = 1 ∨ x = 2 ∨ x = 3 ∨ x = 7) (hb : postM c (nextM c.ents (30 + (k : Int)) 0 x nn 0) = .ok b) :
    checkM b = 0 ∧ ∃ es e, planM b ks (30 + (k : Int)) = .ok es ∧ postsM b es = .ok e ∧ DyM a (k + 1) (T + nn) e := by
  have hlen := h.len
  have htop := h.top
  have hsum := h.sum
  have hday := h.day
  have hbl := bal_le_sum h.right x
  have hat : (atS c.subs x).isSome = true := at_of_ids h.ids (by rcases hx with rfl | rfl | rfl | rfl <;> decide)
  obtain ⟨b', p0, p1, p2, p3, p4, p5⟩ := in_ok (day := 30 + (k : Int)) (amount := nn) h.right (by omega) hday (by omega) (by omega) (by omega) hat (by omega)
  rw [hb] at p0
  injection p0 with p0
  subst p0
  have hld : (lastE b.ents).day = 30 + (k : Int) := by rw [p2, lastE_snoc]; rfl
  have hbl2 : b.ents.length = c.ents.length + 1 := by rw [p2]; simp
  have hkl := hks.len
  obtain ⟨es, e, hsw⟩ := sweep_all (day := 30 + (k : Int)) p1 (hks.right (p4.trans h.ids)) (by omega) (by omega) (by omega) (by omega) (by omega)
  refine ⟨p1, es, e, hsw.plan, hsw.run.posts, ⟨hsw.run.right, hsw.run.ids.trans (p4.trans h.ids), ?_, ?_, ?_, by omega⟩⟩
  · have h1 : e.ents = b.ents ++ es := hsw.run.ents
    have h2 := hsw.len
    rw [h1, List.length_append]
    omega
  · have := hsw.run.last
    push_cast
    omega
  · rw [hsw.run.sum, p5]
    omega

set_option maxRecDepth 100000 in
set_option maxHeartbeats 32000000 in
theorem swdays_any (v : Value) (n : Nat) (w : World) (hi : IntsAt w v n w.heap.size) (hn : n ≤ 9223372036854775807) :
    Calls Try.prog 3 #[v] w fun e w' => e = .returned (.bool true) ∧ Below w.heap.size w w' := by
  have HNEW := Lib.hid (sNew_any v n w hi hn)
  have HSN := Lib.hid sane24_true
  clear hi hn
  go_enter Try.func3, Try.ntmps3
  go_wp2_with fail
  refine (HNEW.out).mono ?_
  rintro e w1 ⟨rfl, t1, b1⟩
  obtain ⟨tb, htb⟩ : ∃ tb, tb = w.heap.size := ⟨_, rfl⟩
  rw [← htb] at t1 ⊢
  have HACC : Hid (Calls Try.prog 10 #[.pointer (some ⟨tb, 0, none⟩), .int .i64 4] w1 (AccPost tb 4 w1)) := Lib.hid (sAccount_any tb 4 w1 t1 (by decide))
  have HW1 := Lib.hid b1
  have HTB := Lib.hid htb
  clear t1 b1 HNEW htb
  go_wp2_with fail
  refine (HACC.out).mono ?_
  rintro e w2 ⟨a, su, en, rfl, hmd, hs, he, hsi, hcr⟩
  obtain ⟨aS, cS, rfl, -, -⟩ := hs.shape
  obtain ⟨aE, cE, rfl, -, -⟩ := entsAt_shape he
  have HKP := Lib.hid (sKeeps_any tb w2 hsi.src)
  have HSI2 := Lib.hid hsi
  have HS2 := Lib.hid hs
  have HE2 := Lib.hid he
  have HMD := Lib.hid hmd
  have HB2 := Lib.hid ((HW1.out).grown hsi.old HW1.out.size (fun q e => by injection e with e; rw [← e, ← HTB.out]; exact Nat.le_refl _))
  clear hsi hs he hmd HACC
  go_wp2_with fail
  refine (HKP.out).mono ?_
  rintro e w3 ⟨kv, ks, rfl, hku, hko, hsi3⟩
  have hS3 := HS2.out.turn HSI2.out.src hsi3.old
  have hE3 := HE2.out.turn HSI2.out.src hsi3.old
  have hK3 : KeepsAt w3 kv ks := ListAt.owns hko
  have hB3 := HB2.out.grown hsi3.old HB2.out.size (fun q e => by injection e with e; rw [← e, ← HTB.out]; exact Nat.le_refl _)
  obtain ⟨aK, cK, rfl, -, -⟩ := hK3.open
  have hko : keepsB a.subs 0 true ks = true := hku.right HMD.out.ids
  have HSRC3 := Lib.hid hsi3.src
  have HSI3 : Hid (SI w1 tb w3) := Lib.hid ⟨hsi3.src, grown_step HSI2.out.old hsi3.old, HSI2.out.lt⟩
  obtain ⟨nS, hnS⟩ : ∃ k, k = a.subs.length := ⟨_, rfl⟩
  obtain ⟨nE, hnE⟩ : ∃ k, k = a.ents.length := ⟨_, rfl⟩
  obtain ⟨nK, hnK⟩ : ∃ k, k = ks.length := ⟨_, rfl⟩
  obtain ⟨cr, hcr2⟩ : ∃ c, c = a.credit := ⟨_, rfl⟩
  rw [← hnS] at hS3
  rw [← hnE] at hE3
  rw [← hnK] at hK3
  rw [← hnS, ← hnE, ← hcr2]
  try rw [← hnK]
  have HKU := Lib.hid hku
  have HKO := Lib.hid hko
  have HNS := Lib.hid hnS
  have HNE := Lib.hid hnE
  have HNK := Lib.hid hnK
  have HCR := Lib.hid hcr2
  have hz := checkM_zero.1 HMD.out.right
  have hns20 : nS ≤ 20 := by rw [hnS]; exact hz.1
  have hne4 : nE ≤ 4 := by rw [hnE]; exact HMD.out.len
  have hnk3 : nK ≤ 3 := by rw [hnK]; exact hku.len
  clear hku hko hsi3 hnS hnE hnK hcr2 hz hcr HKP HSI2 HS2 HE2 HB2
  go_upto_region 3 with fail
  obtain ⟨w4, hw4⟩ : ∃ w4, w4 = w3.alloc (.cells #[.int .i64 cr, .slice aS nS cS, .slice aE nE cE] 28) := ⟨_, rfl⟩
  obtain ⟨bA, hbA⟩ : ∃ bA, bA = w3.heap.size := ⟨_, rfl⟩
  have HBA : Hid (w4.heap[bA]? = some (.cells #[.int .i64 cr, .slice aS nS cS, .slice aE nE cE] 28 (0, 0))) := Lib.hid (by rw [hw4, hbA]; exact heap_alloc_new _ _)
  have HSA : Hid (SubsAt w4 (.slice aS nS cS) a.subs) := Lib.hid (by rw [hw4]; exact hS3.below (below_alloc _ _))
  have HEA : Hid (EntsAt w4 (.slice aE nE cE) a.ents) := Lib.hid (by rw [hw4]; exact hE3.below (below_alloc _ _))
  have HKA : Hid (KeepsAt w4 (.slice aK nK cK) ks) := Lib.hid (by rw [hw4]; exact hK3.below (below_alloc _ _))
  have HB4 : Hid (Below w.heap.size w w4) := Lib.hid (by rw [hw4]; exact hB3.alloc hB3.size _)
  rw [← hw4, ← hbA]
  have htb4 : tb < bA := by rw [hbA]; exact HSRC3.out.lt
  have HDI : Hid (DyI w1 tb bA a (.slice aS nS cS) (.slice aE nE cE) (.slice aK nK cK) ks w4) := Lib.hid (by
    refine ⟨⟨?_, ?_, HSA.out, HEA.out, htb4, ?_⟩, HKA.out⟩
    · rw [hw4]; exact HSI3.out.alloc _
    · rw [← HCR.out]; exact HBA.out
    · rw [hbA]; exact HSI3.out.old.size)
  obtain ⟨T0, hT0⟩ : ∃ T, T = sumM a.subs := ⟨_, rfl⟩
  have HDM0 : Hid (DyM a 0 T0 a) := Lib.hid (by
    have htop := HMD.out.top (by omega)
    have hsum := sumM_le htop
    have hids : a.subs.length = 4 := by have := congrArg List.length HMD.out.ids; simpa using this
    have hday := HMD.out.day
    rw [hids] at hsum
    exact ⟨HMD.out.right, HMD.out.ids, by have := HMD.out.len; omega, by omega, hT0.symm, by omega⟩)
  have HTO : Hid (Calls Try.prog 12 #[.agg #[.int .i64 cr, .slice aS nS cS, .slice aE nE cE]] w4 fun e w' => e = .returned (.int .i64 T0) ∧ Below w4.heap.size w4 w') := Lib.hid (by
    have h := raTotal_any a (.slice aS nS cS) (.slice aE nE cE) w4 HSA.out HEA.out (by rw [← HNS.out]; omega) (by rw [← HNE.out]; omega)
    rw [show totalM a = T0 from (if_pos HMD.out.right).trans hT0.symm, ← HCR.out] at h
    exact h)
  have HFW : Hid (∀ W, SI w1 tb W → Below w.heap.size w W) := Lib.hid fun W hW => HW1.out.grown hW.old HW1.out.size (fun q e => by injection e with e; rw [← e, ← HTB.out]; exact Nat.le_refl _)
  have hbx := HBA.out
  have u0 := obj_cell hbx 0
  have u1 := obj_cell hbx 1
  have u2 := obj_cell hbx 2
  simp at u0 u1 u2
  clear hw4 hbA hS3 hE3 hK3 hB3 HSRC3 HSI3 hT0 HSA HEA HKA HBA HB4 HKO hbx
  go_wp2_with fail
  refine (HTO.out).mono ?_
  rintro e w5 ⟨rfl, hb5⟩
  have HD5 := Lib.hid (HDI.out.below hb5)
  clear hb5 u0 u1 u2 HTO HDI
  go_wp2
  go_loopw [6, 7] (fun tv dv wr => ∃ (c : Acc) (k : Nat) (T d : Int) (aU aV : Option Addr) (cU cV nU nV : Nat), tv = .int .i64 T ∧ dv = .int .i64 d ∧ Hid (d = 30 + (k : Int)) ∧ 30 ≤ d ∧ d ≤ 36 ∧ k ≤ 6 ∧ Hid (DyM a k T c) ∧ Hid (DyI w1 tb bA c (.slice aU nU cU) (.slice aV nV cV) (.slice aK nK cK) ks wr)) (fun _ dv _ => (36 - RowKit.intOf dv).toNat)
  case atStart => exact ⟨a, 0, T0, 30, aS, aE, cS, cE, nS, nE, rfl, rfl, Lib.hid (by simp), by omega, by omega, by omega, HDM0, HD5⟩
  case round =>
    clear HDM0 HD5
    obtain ⟨c, k, T, d, aU, aV, cU, cV, nU, nV, rfl, rfl, HD, hd0, hd1, hk6, HM, HDI⟩ := hrel
    have hdk := HD.out
    by_cases hk : k < 6
    · have hd36 : d < 36 := by omega
      have HSI := Lib.hid HDI.out.ax.si
      clear hdk
      go_wp2_with fail
      with_reducible refine Calls.mono (pick_in _ [5, 60, 400] _ _ rfl HSI.out (by simp) (by simp) _ rfl _ (by simp)) ?_
      rintro e w6 ⟨nn, rfl, hnn, hi6, hg6⟩
      have hnb : 1 ≤ nn ∧ nn ≤ 400 := by simp at hnn; omega
      have HD6 := Lib.hid ((HDI.out.below (below_alloc _ (.cells #[.int .i64 5, .int .i64 60, .int .i64 400] 3))).turn hi6 hg6)
      clear hnn hi6 hg6 HDI HSI
      go_upto_region 8 with fail
      obtain ⟨base, hbase⟩ : ∃ n, n = w6.heap.size := ⟨_, rfl⟩
      have HTB2 : Hid (tb < base) := Lib.hid (by rw [hbase]; exact HD6.out.ax.si.src.lt)
      have HAB : Hid (bA < base) := Lib.hid (by rw [hbase]; exact obj_lt HD6.out.ax.box)
      obtain ⟨I, hI⟩ : ∃ I, I = fun W : World => DyI w1 tb bA c (.slice aU nU cU) (.slice aV nV cV) (.slice aK nK cK) ks W ∧ base ≤ W.heap.size := ⟨_, rfl⟩
      have HIO : Hid (∀ W, I W → DyI w1 tb bA c (.slice aU nU cU) (.slice aV nV cV) (.slice aK nK cK) ks W ∧ base ≤ W.heap.size) := Lib.hid fun W hW => by rw [hI] at hW; exact hW
      have HII : Hid (∀ W, DyI w1 tb bA c (.slice aU nU cU) (.slice aV nV cV) (.slice aK nK cK) ks W → base ≤ W.heap.size → I W) := Lib.hid fun W hW h => by rw [hI]; exact ⟨hW, h⟩
      have HI0 : Hid (I w6) := Lib.hid (HII.out _ HD6.out (by rw [hbase]; exact Nat.le_refl _))
      have HIB : Hid (∀ W W', I W → Below W.heap.size W W' → I W') := Lib.hid fun W W' hW hb => HII.out _ ((HIO.out W hW).1.below hb) (Nat.le_trans (HIO.out W hW).2 hb.size)
      have HID : Hid (∀ W, I W → I W.drew) := Lib.hid fun W hW => HIB.out _ _ hW (Below.refl _ _).drew
      have HIA : Hid (∀ W o, I W → I (W.alloc o)) := Lib.hid fun W o hW => HIB.out _ _ hW (below_alloc W o)
      obtain ⟨cc, hcc⟩ : ∃ x, x = c.credit := ⟨_, rfl⟩
      have HCC := Lib.hid hcc
      have HCL : Hid (∀ W, I W → ∀ i, W.cell? ⟨bA, i, none⟩ = #[.int .i64 cc, .slice aU nU cU, .slice aV nV cV][i]?) := Lib.hid fun W hW i => by rw [HCC.out]; exact obj_cell (HIO.out W hW).1.ax.box i
      have HSIN : Hid (∀ W, I W → SIn tb W.heap.size (W.alloc (.cells #[.int .i64 1, .int .i64 2, .int .i64 3, .int .i64 7] 3))) := Lib.hid fun W hW => ⟨(HIO.out W hW).1.ax.si.src.lt, heap_alloc_new _ _⟩
      have HBOX : Hid (∀ W, I W → BoxAny base W.heap.size (W.alloc (.cells #[.int .i64 0, .slice none 0 0, .slice none 0 0] 28))) := Lib.hid fun W hW => ⟨(HIO.out W hW).2, _, _, _, _, _, _, _, heap_alloc_new _ _⟩
      have HPK : Hid (∀ b W, I W → SIn tb b W → Calls Try.prog 13 #[.pointer (some ⟨tb, 0, none⟩), .slice (some ⟨b, 0, none⟩) 4 4] W fun e w' => ∃ xq : Int, e = .returned (.int .i64 xq) ∧ (xq = 1 ∨ xq = 2 ∨ xq = 3 ∨ xq = 7) ∧ I w' ∧ (SrcAt W tb ∧ W.grownBy w' (some tb))) := Lib.hid fun b W hW hs => by
        have h := sPick_any tb b 4 [1, 2, 3, 7] W (HIO.out W hW).1.ax.si.src hs.1 (obj_lt hs.2) (by simp) (by simp) (fun i hi => by
          rw [obj_cell hs.2]
          have : i = 0 ∨ i = 1 ∨ i = 2 ∨ i = 3 := by simp at hi; omega
          rcases this with rfl | rfl | rfl | rfl <;> rfl)
        refine h.mono fun e w' ⟨x, h1, h2, h3, h4⟩ => ⟨x, h1, by simpa using h2, HII.out _ ((HIO.out W hW).1.turn ((HIO.out W hW).1.ax.si.turn h3 h4) h4) (Nat.le_trans (HIO.out W hW).2 h4.size), (HIO.out W hW).1.ax.si.src, h4⟩
      have hnum := right_number HM.out.right
      have hnl : nV = c.ents.length ∧ nU = c.subs.length := by
        obtain ⟨ao, cap, h1, -, -⟩ := entsAt_shape HD6.out.ax.ents
        obtain ⟨ao2, cap2, h2, -, -⟩ := HD6.out.ax.subs.shape
        injection h1 with _ h1 _
        injection h2 with _ h2 _
        exact ⟨h1, h2⟩
      have hcz := checkM_zero.1 HM.out.right
      have HNV : Hid (nV = c.ents.length) := Lib.hid hnl.1
      have HNU : Hid (nU = c.subs.length) := Lib.hid hnl.2
      have hnv4 : nV ≤ 400 := by rw [hnl.1]; exact hcz.2.1
      have hnu20 : nU ≤ 20 := by rw [hnl.2]; exact hcz.1
      have HNX0 : Hid (∀ x, nextM c.ents d 0 x nn 0 = ⟨(nV : Int) + 1, d, 0, x, nn, 0⟩) := Lib.hid fun x => by unfold nextM; rw [hnum, HNV.out]
      have HNX : Hid (∀ x W, I W → (x = 1 ∨ x = 2 ∨ x = 3 ∨ x = 7) → Calls Try.prog 15 #[.agg #[.int .i64 cc, .slice aU nU cU, .slice aV nV cV], .int .i64 d, .int .i64 0, .int .i64 x, .int .i64 nn, .int .i64 0] W fun e w' => ∃ xq : Int, e = .returned (.agg #[.int .i64 ((nV : Int) + 1), .int .i64 d, .int .i64 0, .int .i64 xq, .int .i64 nn, .int .i64 0]) ∧ (xq = 1 ∨ xq = 2 ∨ xq = 3 ∨ xq = 7) ∧ I w' ∧ Below W.heap.size W w') := Lib.hid fun x W hW hx => by
        have h := raNext_any c.ents cc (.slice aU nU cU) (.slice aV nV cV) d 0 x nn 0 W (HIO.out W hW).1.ax.ents (by rw [← HNV.out]; omega) (by rw [hnum]; omega) (by rw [hnum, ← HNV.out]; omega)
        rw [HNX0.out] at h
        exact h.mono fun e w' g => ⟨x, g.1, hx, HIB.out _ _ hW g.2, g.2⟩
      have HPO : Hid (∀ x W, I W → (x = 1 ∨ x = 2 ∨ x = 3 ∨ x = 7) → Calls Try.prog 14 #[.agg #[.int .i64 cc, .slice aU nU cU, .slice aV nV cV], .agg #[.int .i64 ((nV : Int) + 1), .int .i64 d, .int .i64 0, .int .i64 x, .int .i64 nn, .int .i64 0]] W fun e w' => ∃ (cb : Int) (aX aY : Option Addr) (nX cX nY cY : Nat), e = .returned (.tuple #[.agg #[.int .i64 cb, .slice aX nX cX, .slice aY nY cY], .int .i64 0]) ∧ PostedIn c d nn cb (.slice aX nX cX) (.slice aY nY cY) w' ∧ I w' ∧ Below W.heap.size W w') := Lib.hid fun x W hW hx => by
        have hlen := HM.out.len
        have htop := HM.out.top
        have hsum := HM.out.sum
        have hday := HM.out.day
        have hbl := bal_le_sum HM.out.right x
        have hat : (atS c.subs x).isSome = true := at_of_ids HM.out.ids (by rcases hx with rfl | rfl | rfl | rfl <;> decide)
        obtain ⟨b', p0, -⟩ := in_ok (day := d) (amount := nn) HM.out.right (by omega) (by rw [HD.out]; exact hday) (by omega) (by omega) (by omega) hat (by omega)
        have h := raPost_any c (nextM c.ents d 0 x nn 0) (.slice aU nU cU) (.slice aV nV cV) W (HIO.out W hW).1.ax.subs (HIO.out W hW).1.ax.ents (by rw [← HNU.out]; omega) (by rw [← HNV.out]; omega)
        rw [p0] at h
        have h' := h
        rw [HNX0.out, ← HCC.out] at h'
        refine h'.mono ?_
        rintro e w' ⟨su, en, h1, h2, h3, h4⟩
        obtain ⟨aX, cX, rfl, -, -⟩ := h2.shape
        obtain ⟨aY, cY, rfl, -, -⟩ := entsAt_shape h3
        exact ⟨_, aX, aY, _, cX, _, cY, h1, ⟨x, b', hx, p0, rfl, h2, h3⟩, HIB.out _ _ hW h4, h4⟩
      have HIP : Hid (∀ W (bE : Nat) (x : Int) (aX aY : Option Addr) (nX cX nY cY : Nat), I W → base ≤ bE → (∃ (z0 : Int) (z1 z2 : Option Addr) (z3 z4 z5 z6 : Nat), W.heap[bE]? = some (.cells #[.int .i64 z0, .slice z1 z3 z4, .slice z2 z5 z6] 28 (0, 0))) → I (put3 W bE (.int .i64 x) (.slice aX nX cX) (.slice aY nY cY))) := Lib.hid fun W bE x aX aY nX cX nY cY hW hb hx => by
        obtain ⟨z0, z1, z2, z3, z4, z5, z6, hx⟩ := hx
        have hg := put3_grown W bE (.int .i64 x) (.slice aX nX cX) (.slice aY nY cY)
        have hl := lone_acc hx
        obtain ⟨h1, h2⟩ := HIO.out W hW
        have hAB := HAB.out
        exact HII.out _ ⟨⟨h1.ax.si.grown hg (fun r e => by injection e with e; have := h1.ax.out; omega), (hg.block _ (obj_lt h1.ax.box) (by simp; omega)).trans h1.ax.box, h1.ax.subs.keep hl hg, h1.ax.ents.keep hl hg, h1.ax.far, h1.ax.out⟩, h1.keeps.keep hl hg⟩ (Nat.le_trans h2 hg.size)
      have egK := enters_of Try.func13 (by kernel_rfl) rfl
      have egN := enters_of Try.func15 (by kernel_rfl) rfl
      have egP := enters_of Try.func14 (by kernel_rfl) rfl
      clear hI hcc hbase hnum hnl hcz HII
      obtain ⟨P, hP⟩ : ∃ P : Nat → Value → World → Prop, P = fun j v W => match j with | 0 => (v = .agg #[.int .i64 cc, .slice aU nU cU, .slice aV nV cV]) | 1 => (v = .agg #[.int .i64 cc, .slice aU nU cU, .slice aV nV cV]) | 2 => (v = .int .i64 d) | 3 => (v = .pointer (some ⟨tb, 0, none⟩)) | 4 => (∃ bq, v = .slice (some ⟨bq, 0, none⟩) 4 4 ∧ SIn tb bq W) | 5 => (∃ xq, v = .int .i64 xq ∧ (xq = 1 ∨ xq = 2 ∨ xq = 3 ∨ xq = 7)) | 6 => (v = .int .i64 nn) | 7 => (∃ xq, v = .agg #[.int .i64 ((nV : Int) + 1), .int .i64 d, .int .i64 0, .int .i64 xq, .int .i64 nn, .int .i64 0] ∧ (xq = 1 ∨ xq = 2 ∨ xq = 3 ∨ xq = 7)) | 8 => (∃ cb aX aY nX cX nY cY, v = .tuple #[.agg #[.int .i64 cb, .slice aX nX cX, .slice aY nY cY], .int .i64 0] ∧ PostedIn c d nn cb (.slice aX nX cX) (.slice aY nY cY) W) | 9 => (∃ cb aX aY nX cX nY cY, v = .tuple #[.agg #[.int .i64 cb, .slice aX nX cX, .slice aY nY cY], .int .i64 0] ∧ PostedIn c d nn cb (.slice aX nX cX) (.slice aY nY cY) W) | 10 => (∃ cb aX aY nX cX nY cY, v = .agg #[.int .i64 cb, .slice aX nX cX, .slice aY nY cY] ∧ PostedIn c d nn cb (.slice aX nX cX) (.slice aY nY cY) W) | 11 => (v = .int .i64 0) | 12 => (∃ bE, v = .pointer (some ⟨bE, 0, none⟩) ∧ BoxAny base bE W) | 14 => (v = .int .i64 0) | _ => True := ⟨_, rfl⟩
      have HPI0 : Hid (∀ v W, P 0 v W ↔ (v = .agg #[.int .i64 cc, .slice aU nU cU, .slice aV nV cV])) := Lib.hid fun v W => by rw [hP] <;> exact Iff.rfl
      have HPI1 : Hid (∀ v W, P 1 v W ↔ (v = .agg #[.int .i64 cc, .slice aU nU cU, .slice aV nV cV])) := Lib.hid fun v W => by rw [hP] <;> exact Iff.rfl
      have HPI2 : Hid (∀ v W, P 2 v W ↔ (v = .int .i64 d)) := Lib.hid fun v W => by rw [hP] <;> exact Iff.rfl
      have HPI3 : Hid (∀ v W, P 3 v W ↔ (v = .pointer (some ⟨tb, 0, none⟩))) := Lib.hid fun v W => by rw [hP] <;> exact Iff.rfl
      have HPI4 : Hid (∀ v W, P 4 v W ↔ (∃ bq, v = .slice (some ⟨bq, 0, none⟩) 4 4 ∧ SIn tb bq W)) := Lib.hid fun v W => by rw [hP] <;> exact Iff.rfl
      have HPI5 : Hid (∀ v W, P 5 v W ↔ (∃ xq, v = .int .i64 xq ∧ (xq = 1 ∨ xq = 2 ∨ xq = 3 ∨ xq = 7))) := Lib.hid fun v W => by rw [hP] <;> exact Iff.rfl
      have HPI6 : Hid (∀ v W, P 6 v W ↔ (v = .int .i64 nn)) := Lib.hid fun v W => by rw [hP] <;> exact Iff.rfl
      have HPI7 : Hid (∀ v W, P 7 v W ↔ (∃ xq, v = .agg #[.int .i64 ((nV : Int) + 1), .int .i64 d, .int .i64 0, .int .i64 xq, .int .i64 nn, .int .i64 0] ∧ (xq = 1 ∨ xq = 2 ∨ xq = 3 ∨ xq = 7))) := Lib.hid fun v W => by rw [hP] <;> exact Iff.rfl
      have HPI8 : Hid (∀ v W, P 8 v W ↔ (∃ cb aX aY nX cX nY cY, v = .tuple #[.agg #[.int .i64 cb, .slice aX nX cX, .slice aY nY cY], .int .i64 0] ∧ PostedIn c d nn cb (.slice aX nX cX) (.slice aY nY cY) W)) := Lib.hid fun v W => by rw [hP] <;> exact Iff.rfl
      have HPI9 : Hid (∀ v W, P 9 v W ↔ (∃ cb aX aY nX cX nY cY, v = .tuple #[.agg #[.int .i64 cb, .slice aX nX cX, .slice aY nY cY], .int .i64 0] ∧ PostedIn c d nn cb (.slice aX nX cX) (.slice aY nY cY) W)) := Lib.hid fun v W => by rw [hP] <;> exact Iff.rfl
      have HPI10 : Hid (∀ v W, P 10 v W ↔ (∃ cb aX aY nX cX nY cY, v = .agg #[.int .i64 cb, .slice aX nX cX, .slice aY nY cY] ∧ PostedIn c d nn cb (.slice aX nX cX) (.slice aY nY cY) W)) := Lib.hid fun v W => by rw [hP] <;> exact Iff.rfl
      have HPI11 : Hid (∀ v W, P 11 v W ↔ (v = .int .i64 0)) := Lib.hid fun v W => by rw [hP] <;> exact Iff.rfl
      have HPI12 : Hid (∀ v W, P 12 v W ↔ (∃ bE, v = .pointer (some ⟨bE, 0, none⟩) ∧ BoxAny base bE W)) := Lib.hid fun v W => by rw [hP] <;> exact Iff.rfl
      have HPI14 : Hid (∀ v W, P 14 v W ↔ (v = .int .i64 0)) := Lib.hid fun v W => by rw [hP] <;> exact Iff.rfl
      have HKP : Hid (∀ (j : Nat) v W W', Below W.heap.size W W' → P j v W → P j v W') := Lib.hid (by
        rw [hP]
        intro j v W W' hb h
        match j, h with
        | 0, h => exact h
        | 1, h => exact h
        | 2, h => exact h
        | 3, h => exact h
        | 4, ⟨bq, e, s0⟩ => exact ⟨bq, e, s0.below hb⟩
        | 5, ⟨xq, e, s0⟩ => exact ⟨xq, e, s0⟩
        | 6, h => exact h
        | 7, ⟨xq, e, s0⟩ => exact ⟨xq, e, s0⟩
        | 8, ⟨cb, aX, aY, nX, cX, nY, cY, e, s0⟩ => exact ⟨cb, aX, aY, nX, cX, nY, cY, e, s0.below hb⟩
        | 9, ⟨cb, aX, aY, nX, cX, nY, cY, e, s0⟩ => exact ⟨cb, aX, aY, nX, cX, nY, cY, e, s0.below hb⟩
        | 10, ⟨cb, aX, aY, nX, cX, nY, cY, e, s0⟩ => exact ⟨cb, aX, aY, nX, cX, nY, cY, e, s0.below hb⟩
        | 11, h => exact h
        | 12, ⟨bE, e, s0⟩ => exact ⟨bE, e, s0.below hb⟩
        | 13, _ => trivial
        | 14, h => exact h
        | j + 15, _ => trivial)
      have HKT : Hid (∀ (j : Nat) v W W', SrcAt W tb → W.grownBy W' (some tb) → P j v W → P j v W') := Lib.hid (by
        rw [hP]
        intro j v W W' hs hg h
        match j, h with
        | 0, h => exact h
        | 1, h => exact h
        | 2, h => exact h
        | 3, h => exact h
        | 4, ⟨bq, e, s0⟩ => exact ⟨bq, e, s0.turn hg⟩
        | 5, ⟨xq, e, s0⟩ => exact ⟨xq, e, s0⟩
        | 6, h => exact h
        | 7, ⟨xq, e, s0⟩ => exact ⟨xq, e, s0⟩
        | 8, ⟨cb, aX, aY, nX, cX, nY, cY, e, s0⟩ => exact ⟨cb, aX, aY, nX, cX, nY, cY, e, s0.turn hs hg⟩
        | 9, ⟨cb, aX, aY, nX, cX, nY, cY, e, s0⟩ => exact ⟨cb, aX, aY, nX, cX, nY, cY, e, s0.turn hs hg⟩
        | 10, ⟨cb, aX, aY, nX, cX, nY, cY, e, s0⟩ => exact ⟨cb, aX, aY, nX, cX, nY, cY, e, s0.turn hs hg⟩
        | 11, h => exact h
        | 12, ⟨bE, e, s0⟩ => exact ⟨bE, e, s0.turn HTB2.out hg⟩
        | 13, _ => trivial
        | 14, h => exact h
        | j + 15, _ => trivial)
      have HKL : Hid (∀ (j : Nat) v W W' b0, Lone W b0 → W.grownBy W' (some b0) → (∀ b, BoxAny base b W → BoxAny base b W') → P j v W → P j v W') := Lib.hid (by
        rw [hP]
        intro j v W W' b0 hl hg hke h
        match j, h with
        | 0, h => exact h
        | 1, h => exact h
        | 2, h => exact h
        | 3, h => exact h
        | 4, ⟨bq, e, s0⟩ => exact ⟨bq, e, s0.keep hl hg⟩
        | 5, ⟨xq, e, s0⟩ => exact ⟨xq, e, s0⟩
        | 6, h => exact h
        | 7, ⟨xq, e, s0⟩ => exact ⟨xq, e, s0⟩
        | 8, ⟨cb, aX, aY, nX, cX, nY, cY, e, s0⟩ => exact ⟨cb, aX, aY, nX, cX, nY, cY, e, s0.keep hl hg⟩
        | 9, ⟨cb, aX, aY, nX, cX, nY, cY, e, s0⟩ => exact ⟨cb, aX, aY, nX, cX, nY, cY, e, s0.keep hl hg⟩
        | 10, ⟨cb, aX, aY, nX, cX, nY, cY, e, s0⟩ => exact ⟨cb, aX, aY, nX, cX, nY, cY, e, s0.keep hl hg⟩
        | 11, h => exact h
        | 12, ⟨bE, e, s0⟩ => exact ⟨bE, e, hke _ s0⟩
        | 13, _ => trivial
        | 14, h => exact h
        | j + 15, _ => trivial)
      clear hP
      go_cut [9, 10] (fun pv ev wx => ∃ (bE : Nat) (cb : Int) (aX aY : Option Addr) (nX cX nY cY : Nat), pv = .pointer (some ⟨bE, 0, none⟩) ∧ ev = .int .i64 0 ∧ base ≤ bE ∧ Hid (I wx) ∧ Hid (wx.heap[bE]? = some (.cells #[.int .i64 cb, .slice aX nX cX, .slice aY nY cY] 28 (0, 0))) ∧ Hid (PostedIn c d nn cb (.slice aX nX cX) (.slice aY nY cY) wx))
      case first =>
        refine wp_region_store [27, 28, 29, 30, 31, 32, 33, 34, 35, 26, 36, 37, 9, 10] (slotS [27, 28, 29, 30, 31, 32, 33, 34, 35, 26, 36, 37, 9, 9999, 10]) (readsS [27, 28, 29, 30, 31, 32, 33, 34, 35, 26, 36, 37, 9, 9999, 10]) (RP [27, 28, 29, 30, 31, 32, 33, 34, 35, 26, 36, 37, 9, 9999, 10] P) I (fun f W => ∃ (bE : Nat) (cb : Int) (aX aY : Option Addr) (nX cX nY cY : Nat), f 9 = .pointer (some ⟨bE, 0, none⟩) ∧ base ≤ bE ∧ I W ∧ W.heap[bE]? = some (.cells #[.int .i64 cb, .slice aX nX cX, .slice aY nY cY] 28 (0, 0)) ∧ PostedIn c d nn cb (.slice aX nX cX) (.slice aY nY cY) W) 13 8 [11, 14] (by decide) (by kernel_rfl) (by kernel_rfl) (by kernel_rfl) (by kernel_rfl) (HID.out _ HI0.out) (fun j f q v W hq h => RP.upd hq h) ?_ ?_ ?_ ?_
        case refine_1 =>
          intro iq hiq hne f W hIW hdep0
          have hiq' : iq < 15 := hiq
          have hdep : ∀ j, j ≠ 13 → depB _ iq j = true → P j (f (slotS [27, 28, 29, 30, 31, 32, 33, 34, 35, 26, 36, 37, 9, 9999, 10] j)) W := hdep0
          clear hdep0
          generalize ha1 : putsL _ [27, 28, 29, 30, 31, 32, 33, 34, 35, 26, 36, 37, 9, 10] f = a1
          match iq, hiq', hne, hdep with
          | 0, _, _, hdep0 =>
            have E4 : a1.tmps[4]?.getD undef = .pointer (some ⟨bA, 0, none⟩) := by rw [← ha1]; exact (putsL_out2 _ _ _ _ (by decide)).trans rfl
            have v0 : W.cell? ⟨bA, 0, none⟩ = some (.int .i64 cc) := by simpa using HCL.out W hIW 0
            have v1 : W.cell? ⟨bA, 1, none⟩ = some (.slice aU nU cU) := by simpa using HCL.out W hIW 1
            have v2 : W.cell? ⟨bA, 2, none⟩ = some (.slice aV nV cV) := by simpa using HCL.out W hIW 2
            exact wpOp_val rfl rfl (v := .agg #[.int .i64 cc, .slice aU nU cU, .slice aV nV cV]) (w' := W) (by simp [execOp, go_sem, E4, v0, v1, v2]) ⟨hIW, fun _ h => h, _, by decide, rfl, RP.set ((HPI0.out _ _).2 rfl)⟩
          | 1, _, _, hdep0 =>
            have E4 : a1.tmps[4]?.getD undef = .pointer (some ⟨bA, 0, none⟩) := by rw [← ha1]; exact (putsL_out2 _ _ _ _ (by decide)).trans rfl
            have v0 : W.cell? ⟨bA, 0, none⟩ = some (.int .i64 cc) := by simpa using HCL.out W hIW 0
            have v1 : W.cell? ⟨bA, 1, none⟩ = some (.slice aU nU cU) := by simpa using HCL.out W hIW 1
            have v2 : W.cell? ⟨bA, 2, none⟩ = some (.slice aV nV cV) := by simpa using HCL.out W hIW 2
            exact wpOp_val rfl rfl (v := .agg #[.int .i64 cc, .slice aU nU cU, .slice aV nV cV]) (w' := W) (by simp [execOp, go_sem, E4, v0, v1, v2]) ⟨hIW, fun _ h => h, _, by decide, rfl, RP.set ((HPI1.out _ _).2 rfl)⟩
          | 2, _, _, hdep0 =>
            have E7 : a1.tmps[7]?.getD undef = .int .i64 d := by rw [← ha1]; exact (putsL_out2 _ _ _ _ (by decide)).trans rfl
            exact wpOp_val rfl rfl (v := .int .i64 d) (w' := W) (by simp [execOp, go_sem, E7]) ⟨hIW, fun _ h => h, _, by decide, rfl, RP.set ((HPI2.out _ _).2 rfl)⟩
          | 3, _, _, hdep0 =>
            have E3 : a1.tmps[3]?.getD undef = .pointer (some ⟨tb, 0, none⟩) := by rw [← ha1]; exact (putsL_out2 _ _ _ _ (by decide)).trans rfl
            exact wpOp_val rfl rfl (v := .pointer (some ⟨tb, 0, none⟩)) (w' := W) (by simp [execOp, go_sem, E3]) ⟨hIW, fun _ h => h, _, by decide, rfl, RP.set ((HPI3.out _ _).2 rfl)⟩
          | 4, _, _, hdep0 =>
            exact wpOp_val rfl rfl (v := .slice (some ⟨W.heap.size, 0, none⟩) 4 4) (w' := W.alloc (.cells #[.int .i64 1, .int .i64 2, .int .i64 3, .int .i64 7] 3)) (by simp [execOp, go_sem]) ⟨(HIA.out _ _ hIW), fun j h => HKP.out j _ _ _ (below_alloc _ _) h, _, by decide, rfl, RP.set ((HPI4.out _ _).2 ⟨_, rfl, HSIN.out _ hIW⟩)⟩
          | 5, _, _, hdep0 =>
            have hd3 := (HPI3.out _ _).1 (hdep0 3 (by decide) (by kernel_rfl))
            have hd4 := (HPI4.out _ _).1 (hdep0 4 (by decide) (by kernel_rfl))
            have E30 : a1.tmps[30]?.getD undef = .pointer (some ⟨tb, 0, none⟩) := by rw [← ha1]; exact (putsL_in2 _ _ _ _ (by decide) (show 30 < 64 from by decide)).trans hd3
            obtain ⟨bq, q4, r4_0⟩ := hd4
            have E31 : a1.tmps[31]?.getD undef = .slice (some ⟨bq, 0, none⟩) 4 4 := by rw [← ha1]; exact (putsL_in2 _ _ _ _ (by decide) (show 31 < 64 from by decide)).trans q4
            refine wpOp_call rfl rfl (n := 13) (vs := #[.pointer (some ⟨tb, 0, none⟩), .slice (some ⟨bq, 0, none⟩) 4 4]) (by have := egK #[.pointer (some ⟨tb, 0, none⟩), .slice (some ⟨bq, 0, none⟩) 4 4] W; simp [execOp, E30, E31, resolve, invoke, go_sem] <;> exact this) ((HPK.out _ W hIW r4_0).mono fun e w' hh => (by obtain ⟨xq, rfl, p0, hJ', hb'⟩ := hh; exact ⟨_, rfl, (HPI5.out _ _).2 ⟨_, rfl, p0⟩, hJ', hb'⟩ : ∃ v, e = .returned v ∧ (P 5 v w' ∧ I w' ∧ SrcAt W tb ∧ W.grownBy w' (some tb)))) ?_
            rintro v w' ⟨hv, hI', hb'⟩
            exact ⟨hI', fun j h => HKT.out j _ _ _ hb'.1 hb'.2 h, _, by decide, rfl, RP.set hv⟩
          | 6, _, _, hdep0 =>
            have E8 : a1.tmps[8]?.getD undef = .int .i64 nn := by rw [← ha1]; exact (putsL_out2 _ _ _ _ (by decide)).trans rfl
            exact wpOp_val rfl rfl (v := .int .i64 nn) (w' := W) (by simp [execOp, go_sem, E8]) ⟨hIW, fun _ h => h, _, by decide, rfl, RP.set ((HPI6.out _ _).2 rfl)⟩
          | 7, _, _, hdep0 =>
            have hd1 := (HPI1.out _ _).1 (hdep0 1 (by decide) (by kernel_rfl))
            have hd2 := (HPI2.out _ _).1 (hdep0 2 (by decide) (by kernel_rfl))
            have hd5 := (HPI5.out _ _).1 (hdep0 5 (by decide) (by kernel_rfl))
            have hd6 := (HPI6.out _ _).1 (hdep0 6 (by decide) (by kernel_rfl))
            have E28 : a1.tmps[28]?.getD undef = .agg #[.int .i64 cc, .slice aU nU cU, .slice aV nV cV] := by rw [← ha1]; exact (putsL_in2 _ _ _ _ (by decide) (show 28 < 64 from by decide)).trans hd1
            have E29 : a1.tmps[29]?.getD undef = .int .i64 d := by rw [← ha1]; exact (putsL_in2 _ _ _ _ (by decide) (show 29 < 64 from by decide)).trans hd2
            obtain ⟨xq, q5, r5_0⟩ := hd5
            have E32 : a1.tmps[32]?.getD undef = .int .i64 xq := by rw [← ha1]; exact (putsL_in2 _ _ _ _ (by decide) (show 32 < 64 from by decide)).trans q5
            have E33 : a1.tmps[33]?.getD undef = .int .i64 nn := by rw [← ha1]; exact (putsL_in2 _ _ _ _ (by decide) (show 33 < 64 from by decide)).trans hd6
            refine wpOp_call rfl rfl (n := 15) (vs := #[.agg #[.int .i64 cc, .slice aU nU cU, .slice aV nV cV], .int .i64 d, .int .i64 0, .int .i64 xq, .int .i64 nn, .int .i64 0]) (by have := egN #[.agg #[.int .i64 cc, .slice aU nU cU, .slice aV nV cV], .int .i64 d, .int .i64 0, .int .i64 xq, .int .i64 nn, .int .i64 0] W; simp [execOp, E28, E29, E32, E33, resolve, invoke, go_sem] <;> exact this) ((HNX.out xq W hIW r5_0).mono fun e w' hh => (by obtain ⟨xq, rfl, p0, hJ', hb'⟩ := hh; exact ⟨_, rfl, (HPI7.out _ _).2 ⟨_, rfl, p0⟩, hJ', hb'⟩ : ∃ v, e = .returned v ∧ (P 7 v w' ∧ I w' ∧ Below W.heap.size W w'))) ?_
            rintro v w' ⟨hv, hI', hb'⟩
            exact ⟨hI', fun j h => HKP.out j _ _ _ hb' h, _, by decide, rfl, RP.set hv⟩
          | 8, _, _, hdep0 =>
            have hd0 := (HPI0.out _ _).1 (hdep0 0 (by decide) (by kernel_rfl))
            have hd7 := (HPI7.out _ _).1 (hdep0 7 (by decide) (by kernel_rfl))
            have E27 : a1.tmps[27]?.getD undef = .agg #[.int .i64 cc, .slice aU nU cU, .slice aV nV cV] := by rw [← ha1]; exact (putsL_in2 _ _ _ _ (by decide) (show 27 < 64 from by decide)).trans hd0
            obtain ⟨xq, q7, r7_0⟩ := hd7
            have E34 : a1.tmps[34]?.getD undef = .agg #[.int .i64 ((nV : Int) + 1), .int .i64 d, .int .i64 0, .int .i64 xq, .int .i64 nn, .int .i64 0] := by rw [← ha1]; exact (putsL_in2 _ _ _ _ (by decide) (show 34 < 64 from by decide)).trans q7
            refine wpOp_call rfl rfl (n := 14) (vs := #[.agg #[.int .i64 cc, .slice aU nU cU, .slice aV nV cV], .agg #[.int .i64 ((nV : Int) + 1), .int .i64 d, .int .i64 0, .int .i64 xq, .int .i64 nn, .int .i64 0]]) (by have := egP #[.agg #[.int .i64 cc, .slice aU nU cU, .slice aV nV cV], .agg #[.int .i64 ((nV : Int) + 1), .int .i64 d, .int .i64 0, .int .i64 xq, .int .i64 nn, .int .i64 0]] W; simp [execOp, E27, E34, resolve, invoke, go_sem] <;> exact this) ((HPO.out xq W hIW r7_0).mono fun e w' hh => (by obtain ⟨cb, aX, aY, nX, cX, nY, cY, rfl, p0, hJ', hb'⟩ := hh; exact ⟨_, rfl, (HPI8.out _ _).2 ⟨_, _, _, _, _, _, _, rfl, p0⟩, hJ', hb'⟩ : ∃ v, e = .returned v ∧ (P 8 v w' ∧ I w' ∧ Below W.heap.size W w'))) ?_
            rintro v w' ⟨hv, hI', hb'⟩
            exact ⟨hI', fun j h => HKP.out j _ _ _ hb' h, _, by decide, rfl, RP.set hv⟩
          | 9, _, _, hdep0 =>
            have hd8 := (HPI8.out _ _).1 (hdep0 8 (by decide) (by kernel_rfl))
            obtain ⟨cb, aX, aY, nX, cX, nY, cY, q8, r8_0⟩ := hd8
            have E35 : a1.tmps[35]?.getD undef = .tuple #[.agg #[.int .i64 cb, .slice aX nX cX, .slice aY nY cY], .int .i64 0] := by rw [← ha1]; exact (putsL_in2 _ _ _ _ (by decide) (show 35 < 64 from by decide)).trans q8
            exact wpOp_val rfl rfl (v := .tuple #[.agg #[.int .i64 cb, .slice aX nX cX, .slice aY nY cY], .int .i64 0]) (w' := W) (by simp [execOp, go_sem, E35]) ⟨hIW, fun _ h => h, _, by decide, rfl, RP.set ((HPI9.out _ _).2 ⟨_, _, _, _, _, _, _, rfl, r8_0⟩)⟩
          | 10, _, _, hdep0 =>
            have hd9 := (HPI9.out _ _).1 (hdep0 9 (by decide) (by kernel_rfl))
            obtain ⟨cb, aX, aY, nX, cX, nY, cY, q9, r9_0⟩ := hd9
            have E26 : a1.tmps[26]?.getD undef = .tuple #[.agg #[.int .i64 cb, .slice aX nX cX, .slice aY nY cY], .int .i64 0] := by rw [← ha1]; exact (putsL_in2 _ _ _ _ (by decide) (show 26 < 64 from by decide)).trans q9
            exact wpOp_val rfl rfl (v := .agg #[.int .i64 cb, .slice aX nX cX, .slice aY nY cY]) (w' := W) (by simp [execOp, go_sem, E26]) ⟨hIW, fun _ h => h, _, by decide, rfl, RP.set ((HPI10.out _ _).2 ⟨_, _, _, _, _, _, _, rfl, r9_0⟩)⟩
          | 11, _, _, hdep0 =>
            have hd9 := (HPI9.out _ _).1 (hdep0 9 (by decide) (by kernel_rfl))
            obtain ⟨cb, aX, aY, nX, cX, nY, cY, q9, r9_0⟩ := hd9
            have E26 : a1.tmps[26]?.getD undef = .tuple #[.agg #[.int .i64 cb, .slice aX nX cX, .slice aY nY cY], .int .i64 0] := by rw [← ha1]; exact (putsL_in2 _ _ _ _ (by decide) (show 26 < 64 from by decide)).trans q9
            exact wpOp_val rfl rfl (v := .int .i64 0) (w' := W) (by simp [execOp, go_sem, E26]) ⟨hIW, fun _ h => h, _, by decide, rfl, RP.set ((HPI11.out _ _).2 rfl)⟩
          | 12, _, _, hdep0 =>
            exact wpOp_val rfl rfl (v := .pointer (some ⟨W.heap.size, 0, none⟩)) (w' := W.alloc (.cells #[.int .i64 0, .slice none 0 0, .slice none 0 0] 28)) (by simp [execOp, go_sem]) ⟨(HIA.out _ _ hIW), fun j h => HKP.out j _ _ _ (below_alloc _ _) h, _, by decide, rfl, RP.set ((HPI12.out _ _).2 ⟨_, rfl, HBOX.out _ hIW⟩)⟩
          | 13, _, hne, _ => exact absurd rfl hne
          | 14, _, _, hdep0 =>
            have hd11 := (HPI11.out _ _).1 (hdep0 11 (by decide) (by kernel_rfl))
            have E37 : a1.tmps[37]?.getD undef = .int .i64 0 := by rw [← ha1]; exact (putsL_in2 _ _ _ _ (by decide) (show 37 < 64 from by decide)).trans hd11
            exact wpOp_val rfl rfl (v := .int .i64 0) (w' := W) (by simp [execOp, go_sem, E37]) ⟨hIW, fun _ h => h, _, by decide, rfl, RP.set ((HPI14.out _ _).2 rfl)⟩
          | iq + 15, h, _, _ => exact absurd h (by omega)
        case refine_2 =>
          intro iq hiq hfr f W hI1 hdep0
          have hdep : ∀ j, j ≠ 13 → depB _ iq j = true → P j (f (slotS [27, 28, 29, 30, 31, 32, 33, 34, 35, 26, 36, 37, 9, 9999, 10] j)) W := hdep0
          clear hdep0
          generalize ha1 : putsL _ [27, 28, 29, 30, 31, 32, 33, 34, 35, 26, 36, 37, 9, 10] f = a1
          simp only [List.mem_cons, List.mem_nil_iff, or_false] at hfr
          rcases hfr with rfl | rfl
          · have hdep0 := hdep
            have hd9 := (HPI9.out _ _).1 (hdep0 9 (by decide) (by kernel_rfl))
            obtain ⟨cb, aX, aY, nX, cX, nY, cY, q9, r9_0⟩ := hd9
            have E26 : a1.tmps[26]?.getD undef = .tuple #[.agg #[.int .i64 cb, .slice aX nX cX, .slice aY nY cY], .int .i64 0] := by rw [← ha1]; exact (putsL_in2 _ _ _ _ (by decide) (show 26 < 64 from by decide)).trans q9
            exact wpOp_val rfl rfl (v := .int .i64 0) (w' := W) (by simp [execOp, go_sem, E26]) ⟨rfl, _, by decide, rfl, RP.set ((HPI11.out _ _).2 rfl), (by obtain ⟨bE, cb, aX, aY, nX, cX, nY, cY, h1, h2⟩ := hI1; exact ⟨bE, cb, aX, aY, nX, cX, nY, cY, (updF_other f _ (by decide)).trans h1, h2⟩)⟩
          · have hdep0 := hdep
            have hd11 := (HPI11.out _ _).1 (hdep0 11 (by decide) (by kernel_rfl))
            have E37 : a1.tmps[37]?.getD undef = .int .i64 0 := by rw [← ha1]; exact (putsL_in2 _ _ _ _ (by decide) (show 37 < 64 from by decide)).trans hd11
            exact wpOp_val rfl rfl (v := .int .i64 0) (w' := W) (by simp [execOp, go_sem, E37]) ⟨rfl, _, by decide, rfl, RP.set ((HPI14.out _ _).2 rfl), (by obtain ⟨bE, cb, aX, aY, nX, cX, nY, cY, h1, h2⟩ := hI1; exact ⟨bE, cb, aX, aY, nX, cX, nY, cY, (updF_other f _ (by decide)).trans h1, h2⟩)⟩
        case refine_3 =>
          intro f W hIW hdep0
          have hdep : ∀ j, j < 15 → j ≠ 13 → ([11, 14] : List Nat).contains j = false → P j (f (slotS [27, 28, 29, 30, 31, 32, 33, 34, 35, 26, 36, 37, 9, 9999, 10] j)) W := hdep0
          have HRP : Hid (∀ j W', (∀ v, P j v W → P j v W') → RP [27, 28, 29, 30, 31, 32, 33, 34, 35, 26, 36, 37, 9, 9999, 10] P j f W → RP [27, 28, 29, 30, 31, 32, 33, 34, 35, 26, 36, 37, 9, 9999, 10] P j f W') := Lib.hid fun j W' h1 h2 => h1 _ h2
          clear hdep0
          generalize ha1 : putsL _ [27, 28, 29, 30, 31, 32, 33, 34, 35, 26, 36, 37, 9, 10] f = a1
          obtain ⟨bE, q12, r12_0⟩ := ((HPI12.out _ _).1 (hdep 12 (by decide) (by decide) (by decide)))
          have E9 : a1.tmps[9]?.getD undef = .pointer (some ⟨bE, 0, none⟩) := by rw [← ha1]; exact (putsL_in2 _ _ _ _ (by decide) (show 9 < 64 from by decide)).trans q12
          obtain ⟨cb, aX, aY, nX, cX, nY, cY, q10, r10_0⟩ := ((HPI10.out _ _).1 (hdep 10 (by decide) (by decide) (by decide)))
          have E36 : a1.tmps[36]?.getD undef = .agg #[.int .i64 cb, .slice aX nX cX, .slice aY nY cY] := by rw [← ha1]; exact (putsL_in2 _ _ _ _ (by decide) (show 36 < 64 from by decide)).trans q10
          obtain ⟨hbE1, z0, z1, z2, z3, z4, z5, z6, hbE2⟩ := r12_0
          have p0 := obj_cell hbE2 0
          have p1 := obj_cell hbE2 1
          have p2 := obj_cell hbE2 2
          have f0 := obj_free hbE2 0
          have f1 := obj_free hbE2 1
          have f2 := obj_free hbE2 2
          simp at p0 p1 p2
          have e9 : f 9 = .pointer (some ⟨bE, 0, none⟩) := q12
          have hg := put3_grown W bE (.int .i64 cb) (.slice aX nX cX) (.slice aY nY cY)
          have hl := lone_acc hbE2
          exact wpOp_skip rfl rfl (w' := put3 W bE (.int .i64 cb) (.slice aX nX cX) (.slice aY nY cY)) (by unfold put3; simp [execOp, go_sem, E9, E36, p0, p1, p2, f0, f1, f2]) ⟨rfl, ⟨bE, cb, aX, aY, nX, cX, nY, cY, e9, hbE1, HIP.out _ _ _ _ _ _ _ _ _ hIW hbE1 ⟨_, _, _, _, _, _, _, hbE2⟩, put3_at hbE2 rfl _ _ _, r10_0.keep hl hg⟩, fun j h => HRP.out j _ (fun v h => HKL.out j v W _ bE hl hg (fun b hb => hb.put hbE2) h) h⟩
        case refine_4 =>
          intro f W hI1 hR
          have h10 := (HPI14.out _ _).1 (hR 14 (show 14 < 15 from by decide) (by decide))
          simp only [putsL, List.foldl_cons, List.foldl_nil, Act.put, List.setIfInBounds_toArray, List.set_cons_zero, List.set_cons_succ]
          obtain ⟨bE, cb, aX, aY, nX, cX, nY, cY, h1, h2, h3, h4, h5⟩ := hI1
          go_wp2
          go_meet
          exact ⟨bE, cb, aX, aY, nX, cX, nY, cY, (by first | exact h1 | rfl), (by first | exact h10 | rfl), h2, Lib.hid h3, Lib.hid h4, Lib.hid h5⟩
      case rest =>
        obtain ⟨bE, cb, aX, aY, nX, cX, nY, cY, rfl, rfl, hbE, HI9, HBE, HPB⟩ := hcut
        clear HPO HNX HPK HBOX HSIN HCL HIP HIA HID HIB HI0
        have HD9 := Lib.hid (HIO.out _ HI9.out).1
        obtain ⟨xq, b, hx, hpb, hcb, hsb, heb⟩ := HPB.out
        rw [HD.out] at hpb
        obtain ⟨hbr, es, e9, hpl, hps, HM9⟩ := HM.out.day_ok hk HKU.out hnb hx hpb
        have HM2 := Lib.hid HM9
        have hnl : nY = b.ents.length ∧ nX = b.subs.length := by
          obtain ⟨ao, cap, h1, -, -⟩ := entsAt_shape heb
          obtain ⟨ao2, cap2, h2, -, -⟩ := hsb.shape
          injection h1 with _ h1 _
          injection h2 with _ h2 _
          exact ⟨h1, h2⟩
        have HSWP : Hid (Calls Try.prog 16 #[.agg #[.int .i64 cb, .slice aX nX cX, .slice aY nY cY], .slice aK nK cK, .int .i64 d] wc fun e w' => ∃ (aR aQ : Option Addr) (nR cR nQ cQ : Nat) (ce : Int), e = .returned (.tuple #[.agg #[.int .i64 ce, .slice aR nR cR, .slice aQ nQ cQ], .int .i64 0]) ∧ Hid (ce = e9.credit) ∧ SubsAt w' (.slice aR nR cR) e9.subs ∧ EntsAt w' (.slice aQ nQ cQ) e9.ents ∧ Below wc.heap.size wc w') := Lib.hid (by
          have h := swSweep_right b e9 ks (.slice aX nX cX) (.slice aY nY cY) (.slice aK nK cK) (30 + (k : Int)) es wc hsb heb HD9.out.keeps (by have := HKU.out.len; omega) hpl hps
          rw [← hcb, ← HD.out] at h
          refine h.mono ?_
          rintro e w' ⟨su, en, h1, h2, h3, h4⟩
          obtain ⟨aR, cR, rfl, -, -⟩ := h2.shape
          obtain ⟨aQ, cQ, rfl, -, -⟩ := entsAt_shape h3
          exact ⟨aR, aQ, _, cR, _, cQ, _, h1, Lib.hid rfl, h2, h3, h4⟩)
        have hT1 : -1000000000000 ≤ T ∧ T ≤ 1000000000000 := by
          have h1 := main_le HM.out.right
          have h2 := (balOf_range HM.out.right 1).1
          have h3 := HM.out.sum
          have h4 := HM.out.top
          omega
        have hex := HBE.out
        have g0 := obj_cell hex 0
        have g1 := obj_cell hex 1
        have g2 := obj_cell hex 2
        simp at g0 g1 g2
        clear hex hpb hcb hsb heb hbr hpl hps HM9 hnl HPB hx HM
        go_wp2_with fail
        refine (HSWP.out).mono ?_
        rintro e w10 ⟨aR, aQ, nR, cR, nQ, cQ, ce, rfl, HCE, hs10, he10, hb10⟩
        have HD10 := Lib.hid (HD9.out.below hb10)
        have hA := HD10.out.ax.box
        have hg := put3_grown w10 bA (.int .i64 ce) (.slice aR nR cR) (.slice aQ nQ cQ)
        have hl := lone_acc hA
        have HD11 : Hid (DyI w1 tb bA e9 (.slice aR nR cR) (.slice aQ nQ cQ) (.slice aK nK cK) ks (put3 w10 bA (.int .i64 ce) (.slice aR nR cR) (.slice aQ nQ cQ))) := Lib.hid
          ⟨⟨HD10.out.ax.si.grown hg (fun r e => by injection e with e; have := HD10.out.ax.out; omega), by rw [← HCE.out]; exact put3_at hA rfl _ _ _, hs10.keep hl hg, he10.keep hl hg, HD10.out.ax.far, HD10.out.ax.out⟩, HD10.out.keeps.keep hl hg⟩
        have s0 := obj_cell hA 0
        have s1 := obj_cell hA 1
        have s2 := obj_cell hA 2
        have f0 := obj_free hA 0
        have f1 := obj_free hA 1
        have f2 := obj_free hA 2
        simp at s0 s1 s2
        clear hA hg hl hs10 he10 hb10 HSWP HD9 HD10 g0 g1 g2 HI9 HBE
        go_upto_region 13 with fail
        obtain ⟨w11, hw11⟩ : ∃ w11, w11 = put3 w10 bA (.int .i64 ce) (.slice aR nR cR) (.slice aQ nQ cQ) := ⟨_, rfl⟩
        change Code.wp _ _ _ _ (put3 w10 bA (.int .i64 ce) (.slice aR nR cR) (.slice aQ nQ cQ))
        rw [← hw11] at HD11 ⊢
        clear hw11 s0 s1 s2 f0 f1 f2
        have hbx := HD11.out.ax.box
        have k0 := obj_cell hbx 0
        have k1 := obj_cell hbx 1
        have k2 := obj_cell hbx 2
        simp at k0 k1 k2
        rw [← HCE.out] at k0
        have hez := checkM_zero.1 HM2.out.right
        have HTO : Hid (∀ W, Below w11.heap.size w11 W → Calls Try.prog 12 #[.agg #[.int .i64 ce, .slice aR nR cR, .slice aQ nQ cQ]] W fun e w' => e = .returned (.int .i64 (T + nn)) ∧ Below W.heap.size W w') := Lib.hid fun W hW => by
          have h := raTotal_any e9 (.slice aR nR cR) (.slice aQ nQ cQ) W (HD11.out.below hW).ax.subs (HD11.out.below hW).ax.ents (by omega) (by omega)
          rw [show totalM e9 = T + nn from (if_pos HM2.out.right).trans HM2.out.sum, ← HCE.out] at h
          exact h
        have HCK : Hid (∀ W, Below w11.heap.size w11 W → Calls Try.prog 17 #[.agg #[.int .i64 ce, .slice aR nR cR, .slice aQ nQ cQ]] W fun e w' => e = .returned (.int .i64 0) ∧ Below W.heap.size W w') := Lib.hid fun W hW => by
          have h := raCheck_any e9 (.slice aR nR cR) (.slice aQ nQ cQ) W (HD11.out.below hW).ax.subs (HD11.out.below hW).ax.ents (by omega) (by omega)
          rw [HM2.out.right, ← HCE.out] at h
          exact h
        clear hez
        clear hbx
        go_wp2_with fail
        refine (HTO.out _ (Below.refl _ _)).mono ?_
        rintro e w12 ⟨rfl, hb12⟩
        have HB12 := Lib.hid hb12
        have hbx := (HD11.out.below hb12).ax.box
        have j0 := obj_cell hbx 0
        have j1 := obj_cell hbx 1
        have j2 := obj_cell hbx 2
        simp at j0 j1 j2
        rw [← HCE.out] at j0
        clear hb12 hbx k0 k1 k2
        go_wp2_with fail
        refine (HCK.out _ HB12.out).mono ?_
        rintro e w13 ⟨rfl, hb13⟩
        have HD13 := Lib.hid ((HD11.out.below HB12.out).below hb13)
        clear hb13 j0 j1 j2 HTO HCK
        go_wp2
        go_roundw
        case rel => exact ⟨e9, k + 1, T + nn, d + 1, aR, aQ, cR, cQ, nR, nQ, (by first | rfl | go_num), (by first | rfl | go_num), Lib.hid (by rw [HD.out]; push_cast; omega), by omega, by omega, by omega, HM2, HD13⟩
        case measure => simp [RowKit.intOf]; omega
    · have hd36 : ¬ d < 36 := by omega
      have HFX := Lib.hid (HFW.out _ HDI.out.ax.si)
      clear hdk
      go_wp2_with fail
      refine (HSN.out _).mono ?_
      rintro e w7 ⟨rfl, hb7⟩
      have HF7 := Lib.hid (HFX.out.trans (hb7.mono HFX.out.size))
      clear hb7
      go_wp2
      go_ret
      exact ⟨rfl, HF7.out⟩

end Go.Proofs.Ytoelidndnajedaa
