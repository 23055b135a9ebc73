/- consolidation.each of a right ledger and a right group: every mutual position is handed to the closure, in the order of eachQ. -/
import Derived.Test.YtdbpbmejgdbppaaCsB
import Derived.Test.YtdbpbmejgdbppaaCsZ
import Derived.Test.YtdbpbmejgdbppaaCsR
import Derived.Test.YtdbpbmejgdbppaaIntL
import Derived.Deep.DeepCutAuto
set_option linter.unusedSimpArgs false
set_option linter.unusedVariables false
namespace Go.Proofs.Ytdbpbmejgdbppaa
open Go.RowKit Go.Lib Go.Proofs Go.Maps

def mutC (m : Mut) : List Value := [.int .i64 m.kind, .int .i64 m.acct, .int .i64 m.oth, .int .i64 m.sgn]
/-- What a closure leaves as it was: every block from base on but rows of differences. -/
def KeepE (base : Nat) (A B : World) : Prop := A.heap.size ≤ B.heap.size ∧ ∀ b, base ≤ b → b < A.heap.size → (∀ cs o, A.heap[b]? ≠ some (.cells cs 35 o)) → B.heap[b]? = A.heap[b]?
theorem KeepE.of_below {base : Nat} {A B : World} (h : Below A.heap.size A B) : KeepE base A B := ⟨h.size, fun b _ hb _ => h.block b hb⟩
theorem KeepE.obj {base b : Nat} {A B : World} {cs : Array Value} {T : TypeId} {o : Nat × Nat} (h : KeepE base A B) (hx : A.heap[b]? = some (.cells cs T o)) (hb : base ≤ b) (hT : T ≠ 35) : B.heap[b]? = some (.cells cs T o) :=
  (h.2 b hb (Array.getElem?_eq_some_iff.1 hx).1 (fun cs' o' e => by rw [hx] at e; injection e with e; injection e with _ e _; exact hT e)).trans hx
/-- What each holds while it runs. -/
structure EI (base bS : Nat) (uR : Value) (R : List Int) (d : Int) (l : List Pst) (W : World) : Prop where
  map : MapS W bS 1000 (sideQ d l)
  lo : base ≤ bS
  refs : W.ownsRow base 3 1 uR R.length (cellsI R)
  size : base ≤ W.heap.size
theorem EI.below {base bS : Nat} {uR : Value} {R : List Int} {d : Int} {l : List Pst} {A B : World} (h : EI base bS uR R d l A) (hb : Below A.heap.size A B) : EI base bS uR R d l B :=
  ⟨h.map.below hb, h.lo, ownsRow_below h.refs hb, Nat.le_trans h.size hb.size⟩
theorem EI.keep {base bS : Nat} {uR : Value} {R : List Int} {d : Int} {l : List Pst} {A B : World} (h : EI base bS uR R d l A) (hk : KeepE base A B) : EI base bS uR R d l B := by
  refine ⟨h.map.same (hk.2 bS h.lo h.map.lt fun cs o => h.map.noCells), h.lo, ?_, Nat.le_trans h.size hk.1⟩
  obtain ⟨h1, h2⟩ := h.refs
  refine ⟨h1, ?_⟩
  rcases h2 with h2 | ⟨g, cap, cur, e1, e2, e3, e4⟩
  · exact Or.inl h2
  · exact Or.inr ⟨g, cap, cur, e1, e2, hk.obj e3 e2 (by decide), e4⟩
def kindAt (j : Nat) : Mut := if j = 0 then mut1 else mut2
def doneK (g R : List Int) (j : Nat) : List Qst := if j = 0 then [] else if j = 1 then kindQ mut1 g R else eachQ g R
theorem doneK_succ (g R : List Int) (j : Nat) (h : j < 2) : doneK g R (j + 1) = doneK g R j ++ kindQ (kindAt j) g R := by
  have : j = 0 ∨ j = 1 := by omega
  rcases this with rfl | rfl <;> simp [doneK, kindAt, eachQ]
theorem flat_prefix {α β : Type} (f : α → List β) (l : List α) (i : Nat) : (l.take i).flatMap f <+: l.flatMap f := by
  refine ⟨(l.drop i).flatMap f, ?_⟩
  rw [← List.flatMap_append, List.take_append_drop]
theorem map_prefix {α β : Type} (f : α → β) (l : List α) (i : Nat) : (l.take i).map f <+: l.map f := by
  refine ⟨(l.drop i).map f, ?_⟩
  rw [← List.map_append, List.take_append_drop]
theorem doneK_prefix (g R : List Int) (j : Nat) : doneK g R j <+: eachQ g R := by
  unfold doneK
  split
  · exact List.nil_prefix
  · split
    · exact List.prefix_append _ _
    · exact List.prefix_rfl
theorem mem_each_of {m : Mut} {g R : List Int} {a b r : Int} (hm : m = mut1 ∨ m = mut2) (ha : a ∈ g) (hb : b ∈ g) (hab : a ≠ b) (hr : r ∈ R) : (⟨m, a, b, r⟩ : Qst) ∈ eachQ g R := by
  have h : (⟨m, a, b, r⟩ : Qst) ∈ kindQ m g R := by
    unfold kindQ pairQ
    rw [List.mem_flatMap]
    refine ⟨a, ha, ?_⟩
    rw [List.mem_flatMap]
    refine ⟨b, hb, ?_⟩
    unfold rowQ
    rw [if_neg hab, List.mem_map]
    exact ⟨r, hr, rfl⟩
  unfold eachQ
  rw [List.mem_append]
  rcases hm with rfl | rfl
  · exact Or.inl h
  · exact Or.inr h
theorem index_k0 (W : World) : (Instr.index 82 (.agg #[.int .i64 1, .int .i64 140, .int .i64 240, .int .i64 1, .int .i64 2, .int .i64 440, .int .i64 540, .int .i64 (-1)]) (.int .i64 0)).run Try.prog W = .ok (.agg #[.int .i64 1, .int .i64 140, .int .i64 240, .int .i64 1]) W := by kernel_rfl
theorem index_k1 (W : World) : (Instr.index 82 (.agg #[.int .i64 1, .int .i64 140, .int .i64 240, .int .i64 1, .int .i64 2, .int .i64 440, .int .i64 540, .int .i64 (-1)]) (.int .i64 1)).run Try.prog W = .ok (.agg #[.int .i64 2, .int .i64 440, .int .i64 540, .int .i64 (-1)]) W := by kernel_rfl
theorem index_kind (j : Nat) (h : j < 2) (W : World) : (Instr.index 82 (.agg #[.int .i64 1, .int .i64 140, .int .i64 240, .int .i64 1, .int .i64 2, .int .i64 440, .int .i64 540, .int .i64 (-1)]) (.int .i64 (j : Int))).run Try.prog W = .ok (.agg (mutC (kindAt j)).toArray) W := by
  have : j = 0 ∨ j = 1 := by omega
  rcases this with rfl | rfl
  · exact index_k0 W
  · exact index_k1 W
theorem cskinds_any (w : World) : Calls Try.prog 41 #[] w fun e w' => e = .returned (.agg #[.int .i64 1, .int .i64 140, .int .i64 240, .int .i64 1, .int .i64 2, .int .i64 440, .int .i64 540, .int .i64 (-1)]) ∧ Below w.heap.size w w' := by
  have hx := heap_alloc_new w (.cells #[.int .i64 1, .int .i64 140, .int .i64 240, .int .i64 1, .int .i64 2, .int .i64 440, .int .i64 540, .int .i64 (-1)] 82)
  have HB := Lib.hid (below_alloc w (.cells #[.int .i64 1, .int .i64 140, .int .i64 240, .int .i64 1, .int .i64 2, .int .i64 440, .int .i64 540, .int .i64 (-1)] 82))
  go_enter Try.func41, Try.ntmps41
  go_wp2
  have c0 := obj_cell hx 0
  have c1 := obj_cell hx 1
  have c2 := obj_cell hx 2
  have c3 := obj_cell hx 3
  have c4 := obj_cell hx 4
  have c5 := obj_cell hx 5
  have c6 := obj_cell hx 6
  have c7 := obj_cell hx 7
  simp at c0 c1 c2 c3 c4 c5 c6 c7
  exact bodyPost_ret (v := .agg #[.int .i64 1, .int .i64 140, .int .i64 240, .int .i64 1, .int .i64 2, .int .i64 440, .int .i64 540, .int .i64 (-1)]) (by simp [results, Try.results41, go_sem, c0, c1, c2, c3, c4, c5, c6, c7]) rfl ⟨rfl, HB.out⟩

set_option maxRecDepth 100000 in
set_option maxHeartbeats 16000000 in
theorem cseach1_any {l : List Pst} (h : LdgOk l) {g : List Int} (hgo : GrpOk g) (d : Int) (f0 : Nat) (p0 : Value) (eg : ∀ args w, (callFunc f0 args).run Try.prog w = .ok (.enter f0 args) w) (vl vg : Value) (w : World) (hl : PstsAt w vl l) (Inv : List Qst → World → Prop)
    (h0 : ∀ W, Below w.heap.size w W → Inv [] W) (hI : ∀ qs W, Inv qs W → ListAt intC 1 W vg g) (hB : ∀ qs W W', Inv qs W → Below W.heap.size W W' → Inv qs W')
    (hdo : ∀ qs q W, (qs ++ [q]) <+: eachQ g (refsM l) → Inv qs W → w.heap.size ≤ W.heap.size → Calls Try.prog f0 #[.agg (mutC q.m).toArray, .int .i64 q.a, .int .i64 q.b, .int .i64 q.r, .int .i64 (ownQ d l q), .int .i64 (othQ d l q), p0] W fun e W' => e = .returned (.tuple #[]) ∧ Inv (qs ++ [q]) W' ∧ KeepE w.heap.size W W') :
    Calls Try.prog 26 #[.agg #[vl], vg, .int .i64 d, .func (.func f0) #[] #[p0]] w fun e w' => e = .returned (.tuple #[]) ∧ Inv (eachQ g (refsM l)) w' := by
  have hlen := h.len
  have hsq := sideQ_bound h d l.length
  rw [List.take_length] at hsq
  have hgl := hgo.len
  have HOK := Lib.hid h
  have HG := Lib.hid hgo
  have HI := Lib.hid hI
  have HBI := Lib.hid hB
  have HDO := Lib.hid hdo
  obtain ⟨base, hbase⟩ : ∃ b, b = w.heap.size := ⟨_, rfl⟩
  rw [← hbase] at HDO
  obtain ⟨R, hR⟩ : ∃ R, R = refsM l := ⟨_, rfl⟩
  rw [← hR] at HDO ⊢
  have hRl : R.length ≤ 400 := by rw [hR]; have := refsM_len l; omega
  have HRI : Hid (∀ r ∈ R, 0 ≤ r ∧ r ≤ 1000000) := Lib.hid (by rw [hR]; exact refsM_in h.mem)
  obtain ⟨ag, cg, rfl, hcg, hgs⟩ := (hI [] w (h0 w (Below.refl _ _))).shape intF
  have hgp : 0 < g.length := List.length_pos_iff.2 hgo.ne
  obtain ⟨bg, og, rfl, -, -⟩ := hgs hgp
  have HGC : Hid (∀ qs W, Inv qs W → ∀ i (hi : i < g.length), W.cell? ⟨bg, og + i, none⟩ = some (.int .i64 g[i])) := Lib.hid fun qs W hW i hi => by
    obtain ⟨a', c', e1, _, h5⟩ := (hI qs W hW).shape intF
    obtain ⟨b', o', rfl, _, h6⟩ := h5 hgp
    injection e1 with e1 _ _
    injection e1 with e1
    injection e1 with e1 e2 _
    subst e1 e2
    have := h6 i hi 0 (by omega)
    simpa [intC] using this
  obtain ⟨ng, hng⟩ : ∃ n, n = g.length := ⟨_, rfl⟩
  have HNG := Lib.hid hng
  rw [← hng] at hcg hgl ⊢
  have HBA := Lib.hid (fun W (hW : Below w.heap.size w W) => csbalances_right h d vl W (hl.below hW))
  have HRE := Lib.hid (fun W (hW : Below w.heap.size w W) => csrefsOf_any l hlen vl W (hl.below hW))
  rw [← hR] at HRE
  have HI0 := Lib.hid h0
  obtain ⟨w0, hw0⟩ : ∃ W, W = w.alloc (.cells #[vl] 27) := ⟨_, rfl⟩
  have HB0 : Hid (Below w.heap.size w w0) := Lib.hid (by rw [hw0]; exact below_alloc _ _)
  have HX0 : Hid (w0.heap[w.heap.size]? = some (.cells #[vl] 27 (0, 0))) := Lib.hid (by rw [hw0]; exact heap_alloc_new _ _)
  have hx0 := HX0.out
  have s0 := obj_cell hx0 0
  simp at s0
  have HRD := Lib.hid hR
  clear h hgo hl h0 hI hB hdo hR hng hgs hx0 hgp
  go_enter Try.func26, Try.ntmps26
  go_upto_region 1 with fail
  rw [← hw0]
  clear hw0
  go_wp2_with fail
  refine (HBA.out _ HB0.out).mono ?_
  rintro e w1 ⟨bS, rfl, hbS, hm1, hb1⟩
  have HB1 := Lib.hid (HB0.out.trans (hb1.mono HB0.out.size))
  have HM1 := Lib.hid hm1
  have hbS1 : base ≤ bS := by have := HB0.out.size; omega
  have hx1 := obj_below HX0.out hb1
  have s1 := obj_cell hx1 0
  simp at s1
  clear hm1 hb1 hx1 s0 hbS HX0
  go_wp2_with fail
  refine (HRE.out _ HB1.out).mono ?_
  rintro e w2 ⟨uR, rfl, hoR, hb2⟩
  have HB2 := Lib.hid (HB1.out.trans (hb2.mono HB1.out.size))
  have HE2 : Hid (EI base bS uR R d l w2) := Lib.hid ⟨HM1.out.below hb2, hbS1, ownsRow_mono hoR (by have := HB1.out.size; omega), by have := HB2.out.size; omega⟩
  obtain ⟨aR, cR, rfl, hcR, -⟩ := owns_gen hoR
  clear hoR hb2 s1 HBA HRE HM1 HB0 HB1
  go_wp2_with fail
  refine (cskinds_any _).mono ?_
  rintro e w3 ⟨rfl, hb3⟩
  have HE3 := Lib.hid (HE2.out.below hb3)
  have HI3 := Lib.hid (HI0.out _ (HB2.out.trans (hb3.mono HB2.out.size)))
  clear hb3 HE2 HB2 HI0
  go_wp2
  go_loopw [24] (fun jv wr => ∃ j : Nat, jv = .int .i64 (j : Int) ∧ j ≤ 2 ∧ Hid (Inv (doneK g R j) wr) ∧ Hid (EI base bS (.slice aR R.length cR) R d l wr)) (fun jv _ => 2 - (RowKit.intOf jv).toNat)
  case atStart => exact ⟨0, rfl, by omega, HI3, HE3⟩
  case round =>
    clear HI3 HE3
    obtain ⟨j, rfl, hj2, HIJ, HEJ⟩ := hrel
    by_cases hjl : j < 2
    · have hwj : IntKind.i64.wrap ((j : Int) + 1) = (j : Int) + 1 := IntWalk.i64_in _ (by omega)
      obtain ⟨mm, hmm⟩ : ∃ mm, mm = kindAt j := ⟨_, rfl⟩
      have HMK : Hid (mm = mut1 ∨ mm = mut2) := Lib.hid (by rw [hmm]; unfold kindAt; split <;> simp)
      have HDN : Hid (doneK g R (j + 1) = doneK g R j ++ kindQ mm g R) := Lib.hid (by rw [hmm]; exact doneK_succ g R j hjl)
      have hix : ∀ W, (Instr.index 82 (.agg #[.int .i64 1, .int .i64 140, .int .i64 240, .int .i64 1, .int .i64 2, .int .i64 440, .int .i64 540, .int .i64 (-1)]) (.int .i64 (j : Int))).run Try.prog W = .ok (.agg (mutC mm).toArray) W := fun W => by rw [hmm]; exact index_kind j hjl W
      have HP1 : Hid ((doneK g R j ++ kindQ mm g R) <+: eachQ g R) := Lib.hid (by rw [← HDN.out]; exact doneK_prefix g R (j + 1))
      clear hmm
      obtain ⟨done0, hd0⟩ : ∃ x, x = doneK g R j := ⟨_, rfl⟩
      rw [← hd0] at HIJ HDN HP1
      clear hd0
      obtain ⟨m0, m1, m2, m3⟩ := mm
      simp only [mutC] at hix
      have hj0 : (0 : Int) ≤ (j : Int) := by omega
      have hj1 : (j : Int) < 2 := by omega
      have HEB := Lib.hid (HEJ.out.below (below_alloc wr (.cells #[.int .i64 m0, .int .i64 m1, .int .i64 m2, .int .i64 m3] 63)))
      have HIB := Lib.hid (HBI.out _ _ _ HIJ.out (below_alloc wr (.cells #[.int .i64 m0, .int .i64 m1, .int .i64 m2, .int .i64 m3] 63)))
      have HXB := Lib.hid (heap_alloc_new wr (.cells #[.int .i64 m0, .int .i64 m1, .int .i64 m2, .int .i64 m3] 63))
      obtain ⟨bm, hbm⟩ : ∃ b, b = wr.heap.size := ⟨_, rfl⟩
      obtain ⟨wB, hwB⟩ : ∃ W, W = wr.alloc (.cells #[.int .i64 m0, .int .i64 m1, .int .i64 m2, .int .i64 m3] 63) := ⟨_, rfl⟩
      have hbmb : base ≤ bm := by have := HEJ.out.size; omega
      rw [← hwB] at HEB HIB HXB
      rw [← hbm] at HXB
      clear HIJ HEJ
      go_upto_region 6 with fail
      rw [← hwB, ← hbm]
      clear hwB hbm hix
      go_wp2
      go_loopw [29] (fun iv wr => ∃ i : Nat, iv = .int .i64 (i : Int) ∧ i ≤ ng ∧ Hid (Inv (done0 ++ (g.take i).flatMap (fun a => pairQ ⟨m0, m1, m2, m3⟩ a g R)) wr) ∧ Hid (EI base bS (.slice aR R.length cR) R d l wr) ∧ Hid (wr.heap[bm]? = some (.cells #[.int .i64 m0, .int .i64 m1, .int .i64 m2, .int .i64 m3] 63 (0, 0)))) (fun iv _ => ng - (RowKit.intOf iv).toNat)
      case atStart => exact ⟨0, rfl, by omega, by simpa using HIB, HEB, HXB⟩
      case round =>
        clear HIB HEB HXB
        obtain ⟨i2, rfl, hi2, HI2, HE2, HX2⟩ := hrel
        by_cases hil : i2 < ng
        · have hilg : i2 < g.length := by rw [← HNG.out]; exact hil
          have cga := HGC.out _ _ HI2.out i2 hilg
          have ham : g[i2] ∈ g := List.getElem_mem hilg
          have HTK2 : Hid ((g.take (i2 + 1)).flatMap (fun a => pairQ ⟨m0, m1, m2, m3⟩ a g R) = (g.take i2).flatMap (fun a => pairQ ⟨m0, m1, m2, m3⟩ a g R) ++ pairQ ⟨m0, m1, m2, m3⟩ g[i2] g R) := Lib.hid (by rw [List.take_succ_eq_append_getElem hilg, List.flatMap_append]; simp)
          have hwi : IntKind.i64.wrap ((i2 : Int) + 1) = (i2 : Int) + 1 := IntWalk.i64_in _ (by omega)
          have hi0 : (0 : Int) ≤ (i2 : Int) := by omega
          have hi1 : (i2 : Int) < (ng : Int) := by omega
          have har := HG.out.ok _ ham
          generalize g[i2] = a at cga ham HTK2 har
          have HAM := Lib.hid ham
          obtain ⟨done1, hd1⟩ : ∃ x, x = done0 ++ (g.take i2).flatMap (fun a => pairQ ⟨m0, m1, m2, m3⟩ a g R) := ⟨_, rfl⟩
          have HTK2' : Hid (done0 ++ (g.take (i2 + 1)).flatMap (fun a => pairQ ⟨m0, m1, m2, m3⟩ a g R) = done1 ++ pairQ ⟨m0, m1, m2, m3⟩ a g R) := Lib.hid (by rw [HTK2.out, ← List.append_assoc, ← hd1])
          have HP2 : Hid ((done1 ++ pairQ ⟨m0, m1, m2, m3⟩ a g R) <+: (done0 ++ kindQ ⟨m0, m1, m2, m3⟩ g R)) := Lib.hid (by rw [← HTK2'.out]; exact (List.prefix_append_right_inj _).2 (flat_prefix _ _ _))
          rw [← hd1] at HI2
          clear hd1 ham hilg HTK2
          go_wp2
          clear cga
          go_loopw [35] (fun iv wr => ∃ i : Nat, iv = .int .i64 (i : Int) ∧ i ≤ ng ∧ Hid (Inv (done1 ++ (g.take i).flatMap (fun b => rowQ ⟨m0, m1, m2, m3⟩ a b R)) wr) ∧ Hid (EI base bS (.slice aR R.length cR) R d l wr) ∧ Hid (wr.heap[bm]? = some (.cells #[.int .i64 m0, .int .i64 m1, .int .i64 m2, .int .i64 m3] 63 (0, 0)))) (fun iv _ => ng - (RowKit.intOf iv).toNat)
          case atStart => exact ⟨0, rfl, by omega, by simpa using HI2, HE2, HX2⟩
          case round =>
            clear HI2 HE2 HX2
            obtain ⟨i3, rfl, hi3, HI3, HE3, HX3⟩ := hrel
            by_cases hil3 : i3 < ng
            · have hilg : i3 < g.length := by rw [← HNG.out]; exact hil3
              have cgb := HGC.out _ _ HI3.out i3 hilg
              have hbm3 : g[i3] ∈ g := List.getElem_mem hilg
              have HTK3 : Hid ((g.take (i3 + 1)).flatMap (fun b => rowQ ⟨m0, m1, m2, m3⟩ a b R) = (g.take i3).flatMap (fun b => rowQ ⟨m0, m1, m2, m3⟩ a b R) ++ rowQ ⟨m0, m1, m2, m3⟩ a g[i3] R) := Lib.hid (by rw [List.take_succ_eq_append_getElem hilg, List.flatMap_append]; simp)
              have hwi3 : IntKind.i64.wrap ((i3 : Int) + 1) = (i3 : Int) + 1 := IntWalk.i64_in _ (by omega)
              have hi03 : (0 : Int) ≤ (i3 : Int) := by omega
              have hi13 : (i3 : Int) < (ng : Int) := by omega
              have hbr := HG.out.ok _ hbm3
              generalize g[i3] = b at cgb hbm3 HTK3 hbr
              have HBM := Lib.hid hbm3
              obtain ⟨done2, hd2⟩ : ∃ x, x = done1 ++ (g.take i3).flatMap (fun b => rowQ ⟨m0, m1, m2, m3⟩ a b R) := ⟨_, rfl⟩
              have HTK3' : Hid (done1 ++ (g.take (i3 + 1)).flatMap (fun b => rowQ ⟨m0, m1, m2, m3⟩ a b R) = done2 ++ rowQ ⟨m0, m1, m2, m3⟩ a b R) := Lib.hid (by rw [HTK3.out, ← List.append_assoc, ← hd2])
              have HP3 : Hid ((done2 ++ rowQ ⟨m0, m1, m2, m3⟩ a b R) <+: (done1 ++ pairQ ⟨m0, m1, m2, m3⟩ a g R)) := Lib.hid (by rw [← HTK3'.out]; exact (List.prefix_append_right_inj _).2 (flat_prefix _ _ _))
              rw [← hd2] at HI3
              clear hd2 hbm3 hilg HTK3
              by_cases hab : a = b
              · have habt : (a == b) = true := by rw [hab]; simp
                have HRZ : Hid (rowQ ⟨m0, m1, m2, m3⟩ a b R = []) := Lib.hid (if_pos hab)
                clear hab
                go_wp2
                go_roundw
                case rel => exact ⟨i3 + 1, by first | rfl | go_num, by omega, by rw [HTK3'.out, HRZ.out, List.append_nil]; exact HI3, HE3, HX3⟩
                case measure => simp [RowKit.intOf]; omega
              · have habt : (a == b) = false := beq_eq_false_iff_ne.2 hab
                have HRZ : Hid (rowQ ⟨m0, m1, m2, m3⟩ a b R = R.map fun r => ⟨⟨m0, m1, m2, m3⟩, a, b, r⟩) := Lib.hid (if_neg hab)
                have HAB := Lib.hid hab
                clear hab
                go_wp2
                clear cgb
                go_loopw [44] (fun iv wr => ∃ i : Nat, iv = .int .i64 (i : Int) ∧ i ≤ R.length ∧ Hid (Inv (done2 ++ (R.take i).map (fun r => ⟨⟨m0, m1, m2, m3⟩, a, b, r⟩)) wr) ∧ Hid (EI base bS (.slice aR R.length cR) R d l wr) ∧ Hid (wr.heap[bm]? = some (.cells #[.int .i64 m0, .int .i64 m1, .int .i64 m2, .int .i64 m3] 63 (0, 0)))) (fun iv _ => R.length - (RowKit.intOf iv).toNat)
                case atStart => exact ⟨0, rfl, by omega, by simpa using HI3, HE3, HX3⟩
                case round =>
                  clear HI3 HE3 HX3
                  obtain ⟨i4, rfl, hi4, HI4, HE4, HX4⟩ := hrel
                  by_cases hil4 : i4 < R.length
                  · have HE4' := HE4
                    obtain ⟨gR, cR', eR, -, -⟩ := owns_shape HE4.out.refs (by omega)
                    injection eR with eR _ _
                    subst eR
                    have cgr : wr.cell? ⟨gR, i4, none⟩ = some (.int .i64 R[i4]) := by
                      rw [HE4.out.refs.cellAt i4 (by omega), cellsI_get _ _ hil4]
                      simp [List.getD, hil4]
                    have hrm : R[i4] ∈ R := List.getElem_mem hil4
                    have hrr := HRI.out _ hrm
                    have HTK4 : Hid (done2 ++ (R.take (i4 + 1)).map (fun r => ⟨⟨m0, m1, m2, m3⟩, a, b, r⟩) = (done2 ++ (R.take i4).map (fun r => ⟨⟨m0, m1, m2, m3⟩, a, b, r⟩)) ++ [⟨⟨m0, m1, m2, m3⟩, a, b, R[i4]⟩]) := Lib.hid (by rw [List.take_succ_eq_append_getElem hil4, List.map_append, List.append_assoc]; rfl)
                    obtain ⟨done, hdn⟩ : ∃ x, x = done2 ++ (R.take i4).map (fun r => (⟨⟨m0, m1, m2, m3⟩, a, b, r⟩ : Qst)) := ⟨_, rfl⟩
                    rw [← hdn] at HTK4 HI4
                    have hqm : (done ++ [⟨⟨m0, m1, m2, m3⟩, a, b, R[i4]⟩]) <+: eachQ g R := by
                      refine List.IsPrefix.trans ?_ (HP3.out.trans (HP2.out.trans HP1.out))
                      rw [← HTK4.out, HRZ.out]
                      exact (List.prefix_append_right_inj _).2 (map_prefix _ _ _)
                    generalize R[i4] = r at cgr hrm hrr HTK4 hqm
                    have hwi4 : IntKind.i64.wrap ((i4 : Int) + 1) = (i4 : Int) + 1 := IntWalk.i64_in _ (by omega)
                    have hi04 : (0 : Int) ≤ (i4 : Int) := by omega
                    have hi14 : (i4 : Int) < (R.length : Int) := by omega
                    have hmk : (m3 = 1 ∨ m3 = -1) ∧ (100 ≤ m1 ∧ m1 ≤ 599) ∧ (100 ≤ m2 ∧ m2 ≤ 599) := by
                      rcases HMK.out with e | e <;> simp only [mut1, mut2, Mut.mk.injEq] at e <;> obtain ⟨-, rfl, rfl, rfl⟩ := e <;> decide
                    have HK1 : Hid (Sd.In ⟨m1, a, b, r⟩) := Lib.hid ⟨⟨by simp only; omega, by simp only; omega⟩, ⟨by simp only; omega, by simp only; omega⟩, ⟨by simp only; omega, by simp only; omega⟩, ⟨by simp only; omega, by simp only; omega⟩⟩
                    have HK2 : Hid (Sd.In ⟨m2, b, a, r⟩) := Lib.hid ⟨⟨by simp only; omega, by simp only; omega⟩, ⟨by simp only; omega, by simp only; omega⟩, ⟨by simp only; omega, by simp only; omega⟩, ⟨by simp only; omega, by simp only; omega⟩⟩
                    have hg1 := hsq ⟨m1, a, b, r⟩
                    have hg2 := hsq ⟨m2, b, a, r⟩
                    have HOW : Hid (ownQ d l ⟨⟨m0, m1, m2, m3⟩, a, b, r⟩ = m3 * sideQ d l ⟨m1, a, b, r⟩ ∧ othQ d l ⟨⟨m0, m1, m2, m3⟩, a, b, r⟩ = -m3 * sideQ d l ⟨m2, b, a, r⟩) := Lib.hid ⟨rfl, rfl⟩
                    obtain ⟨J, hJ⟩ : ∃ J, J = fun W : World => Below wr.heap.size wr W := ⟨_, rfl⟩
                    have HJO : Hid (∀ W, J W → Below wr.heap.size wr W) := Lib.hid fun W hW => by rw [hJ] at hW; exact hW
                    have HJI : Hid (∀ W, Below wr.heap.size wr W → J W) := Lib.hid fun W hW => by rw [hJ]; exact hW
                    have HJD : Hid (∀ W, J W → J W.drew) := Lib.hid fun W hW => HJI.out _ ((HJO.out W hW).drew)
                    have HJ0 : Hid (J wr) := Lib.hid (HJI.out _ (Below.refl _ _))
                    have HMM : Hid (∀ W, J W → ∀ j, W.cell? ⟨bm, j, none⟩ = #[.int .i64 m0, .int .i64 m1, .int .i64 m2, .int .i64 m3][j]?) := Lib.hid fun W hW j => obj_cell (obj_below HX4.out (HJO.out W hW)) j
                    have HL1 := Lib.hid (fun W (hW : J W) => look_S (HE4.out.map.below (HJO.out W hW)) HK1.out)
                    have HL2 := Lib.hid (fun W (hW : J W) => look_S (HE4.out.map.below (HJO.out W hW)) HK2.out)
                    have HDX : Hid (∀ W, J W → Calls Try.prog f0 #[.agg #[.int .i64 m0, .int .i64 m1, .int .i64 m2, .int .i64 m3], .int .i64 a, .int .i64 b, .int .i64 r, .int .i64 (m3 * sideQ d l ⟨m1, a, b, r⟩), .int .i64 (-m3 * sideQ d l ⟨m2, b, a, r⟩), p0] W fun e W' => e = .returned (.tuple #[]) ∧ Inv (done ++ [⟨⟨m0, m1, m2, m3⟩, a, b, r⟩]) W' ∧ EI base bS (.slice (some ⟨gR, 0, none⟩) R.length cR) R d l W' ∧ W'.heap[bm]? = some (.cells #[.int .i64 m0, .int .i64 m1, .int .i64 m2, .int .i64 m3] 63 (0, 0))) := Lib.hid fun W hW => by
                      have hbw := HJO.out W hW
                      have hE := HE4.out.below hbw
                      have h := HDO.out done ⟨⟨m0, m1, m2, m3⟩, a, b, r⟩ W hqm (HBI.out _ _ _ HI4.out hbw) hE.size
                      rw [HOW.out.1, HOW.out.2] at h
                      refine h.mono fun e W' hh => ?_
                      obtain ⟨h1, h2, h3⟩ := hh
                      exact ⟨h1, h2, hE.keep h3, h3.obj (obj_below HX4.out hbw) hbmb (by decide)⟩
                    obtain ⟨G1, hG1⟩ : ∃ x, x = sideQ d l ⟨m1, a, b, r⟩ := ⟨_, rfl⟩
                    obtain ⟨G2, hG2⟩ : ∃ x, x = sideQ d l ⟨m2, b, a, r⟩ := ⟨_, rfl⟩
                    rw [← hG1] at hg1 HL1 HDX
                    rw [← hG2] at hg2 HL2 HDX
                    simp only [sdC] at HL1 HL2
                    have hw0 : IntKind.i64.wrap (-m3) = -m3 := IntWalk.i64_in _ (by omega)
                    have hw1 : IntKind.i64.wrap (m3 * G1) = m3 * G1 := IntWalk.i64_in _ (by rcases hmk.1 with e | e <;> rw [e] <;> omega)
                    have hw2 : IntKind.i64.wrap (-m3 * G2) = -m3 * G2 := IntWalk.i64_in _ (by rcases hmk.1 with e | e <;> rw [e] <;> omega)
                    clear hG1 hG2 HOW hdn hrm hqm hmk hJ hg1 hg2
                    go_upto_region 16 with fail
                    clear cgr
                    obtain ⟨P, hP⟩ : ∃ P : Nat → Value → World → Prop, P = fun j v W => match j with | 0 => (v = .func (.func f0) #[] #[p0]) | 1 => (v = .agg #[.int .i64 m0, .int .i64 m1, .int .i64 m2, .int .i64 m3]) | 2 => (v = .int .i64 a) | 3 => (v = .int .i64 b) | 4 => (v = .int .i64 r) | 5 => (v = .pointer (some ⟨bm, 3, none⟩)) | 6 => (v = .int .i64 m3) | 7 => (v = .map (some bS)) | 8 => (v = .pointer (some ⟨bm, 1, none⟩)) | 9 => (v = .int .i64 m1) | 10 => (v = .int .i64 a) | 11 => (v = .int .i64 b) | 12 => (v = .int .i64 r) | 13 => (v = .agg #[.int .i64 m1, .int .i64 a, .int .i64 b, .int .i64 r]) | 14 => (v = .int .i64 G1) | 15 => (v = .int .i64 (m3 * G1)) | 16 => (v = .pointer (some ⟨bm, 3, none⟩)) | 17 => (v = .int .i64 m3) | 18 => (v = .int .i64 (-m3)) | 19 => (v = .map (some bS)) | 20 => (v = .pointer (some ⟨bm, 2, none⟩)) | 21 => (v = .int .i64 m2) | 22 => (v = .int .i64 b) | 23 => (v = .int .i64 a) | 24 => (v = .int .i64 r) | 25 => (v = .agg #[.int .i64 m2, .int .i64 b, .int .i64 a, .int .i64 r]) | 26 => (v = .int .i64 G2) | 27 => (v = .int .i64 (-m3 * G2)) | _ => True := ⟨_, rfl⟩
                    have HPI0 : Hid (∀ v W, P 0 v W ↔ (v = .func (.func f0) #[] #[p0])) := Lib.hid fun v W => by rw [hP] <;> exact Iff.rfl
                    have HPI1 : Hid (∀ v W, P 1 v W ↔ (v = .agg #[.int .i64 m0, .int .i64 m1, .int .i64 m2, .int .i64 m3])) := Lib.hid fun v W => by rw [hP] <;> exact Iff.rfl
                    have HPI2 : Hid (∀ v W, P 2 v W ↔ (v = .int .i64 a)) := Lib.hid fun v W => by rw [hP] <;> exact Iff.rfl
                    have HPI3 : Hid (∀ v W, P 3 v W ↔ (v = .int .i64 b)) := Lib.hid fun v W => by rw [hP] <;> exact Iff.rfl
                    have HPI4 : Hid (∀ v W, P 4 v W ↔ (v = .int .i64 r)) := Lib.hid fun v W => by rw [hP] <;> exact Iff.rfl
                    have HPI5 : Hid (∀ v W, P 5 v W ↔ (v = .pointer (some ⟨bm, 3, none⟩))) := Lib.hid fun v W => by rw [hP] <;> exact Iff.rfl
                    have HPI6 : Hid (∀ v W, P 6 v W ↔ (v = .int .i64 m3)) := Lib.hid fun v W => by rw [hP] <;> exact Iff.rfl
                    have HPI7 : Hid (∀ v W, P 7 v W ↔ (v = .map (some bS))) := Lib.hid fun v W => by rw [hP] <;> exact Iff.rfl
                    have HPI8 : Hid (∀ v W, P 8 v W ↔ (v = .pointer (some ⟨bm, 1, none⟩))) := Lib.hid fun v W => by rw [hP] <;> exact Iff.rfl
                    have HPI9 : Hid (∀ v W, P 9 v W ↔ (v = .int .i64 m1)) := Lib.hid fun v W => by rw [hP] <;> exact Iff.rfl
                    have HPI10 : Hid (∀ v W, P 10 v W ↔ (v = .int .i64 a)) := Lib.hid fun v W => by rw [hP] <;> exact Iff.rfl
                    have HPI11 : Hid (∀ v W, P 11 v W ↔ (v = .int .i64 b)) := Lib.hid fun v W => by rw [hP] <;> exact Iff.rfl
                    have HPI12 : Hid (∀ v W, P 12 v W ↔ (v = .int .i64 r)) := Lib.hid fun v W => by rw [hP] <;> exact Iff.rfl
                    have HPI13 : Hid (∀ v W, P 13 v W ↔ (v = .agg #[.int .i64 m1, .int .i64 a, .int .i64 b, .int .i64 r])) := Lib.hid fun v W => by rw [hP] <;> exact Iff.rfl
                    have HPI14 : Hid (∀ v W, P 14 v W ↔ (v = .int .i64 G1)) := Lib.hid fun v W => by rw [hP] <;> exact Iff.rfl
                    have HPI15 : Hid (∀ v W, P 15 v W ↔ (v = .int .i64 (m3 * G1))) := Lib.hid fun v W => by rw [hP] <;> exact Iff.rfl
                    have HPI16 : Hid (∀ v W, P 16 v W ↔ (v = .pointer (some ⟨bm, 3, none⟩))) := Lib.hid fun v W => by rw [hP] <;> exact Iff.rfl
                    have HPI17 : Hid (∀ v W, P 17 v W ↔ (v = .int .i64 m3)) := Lib.hid fun v W => by rw [hP] <;> exact Iff.rfl
                    have HPI18 : Hid (∀ v W, P 18 v W ↔ (v = .int .i64 (-m3))) := Lib.hid fun v W => by rw [hP] <;> exact Iff.rfl
                    have HPI19 : Hid (∀ v W, P 19 v W ↔ (v = .map (some bS))) := Lib.hid fun v W => by rw [hP] <;> exact Iff.rfl
                    have HPI20 : Hid (∀ v W, P 20 v W ↔ (v = .pointer (some ⟨bm, 2, none⟩))) := Lib.hid fun v W => by rw [hP] <;> exact Iff.rfl
                    have HPI21 : Hid (∀ v W, P 21 v W ↔ (v = .int .i64 m2)) := Lib.hid fun v W => by rw [hP] <;> exact Iff.rfl
                    have HPI22 : Hid (∀ v W, P 22 v W ↔ (v = .int .i64 b)) := Lib.hid fun v W => by rw [hP] <;> exact Iff.rfl
                    have HPI23 : Hid (∀ v W, P 23 v W ↔ (v = .int .i64 a)) := Lib.hid fun v W => by rw [hP] <;> exact Iff.rfl
                    have HPI24 : Hid (∀ v W, P 24 v W ↔ (v = .int .i64 r)) := Lib.hid fun v W => by rw [hP] <;> exact Iff.rfl
                    have HPI25 : Hid (∀ v W, P 25 v W ↔ (v = .agg #[.int .i64 m2, .int .i64 b, .int .i64 a, .int .i64 r])) := Lib.hid fun v W => by rw [hP] <;> exact Iff.rfl
                    have HPI26 : Hid (∀ v W, P 26 v W ↔ (v = .int .i64 G2)) := Lib.hid fun v W => by rw [hP] <;> exact Iff.rfl
                    have HPI27 : Hid (∀ v W, P 27 v W ↔ (v = .int .i64 (-m3 * G2))) := Lib.hid fun v W => by rw [hP] <;> exact Iff.rfl
                    have HKP : Hid (∀ (j : Nat) v W W', Below W.heap.size W W' → P j v W → P j v W') := Lib.hid (by
                      rw [hP]
                      intro j v W W' hb h
                      match j, h with
                      | 0, h => exact h
                      | 1, h => exact h
                      | 2, h => exact h
                      | 3, h => exact h
                      | 4, h => exact h
                      | 5, h => exact h
                      | 6, h => exact h
                      | 7, h => exact h
                      | 8, h => exact h
                      | 9, h => exact h
                      | 10, h => exact h
                      | 11, h => exact h
                      | 12, h => exact h
                      | 13, h => exact h
                      | 14, h => exact h
                      | 15, h => exact h
                      | 16, h => exact h
                      | 17, h => exact h
                      | 18, h => exact h
                      | 19, h => exact h
                      | 20, h => exact h
                      | 21, h => exact h
                      | 22, h => exact h
                      | 23, h => exact h
                      | 24, h => exact h
                      | 25, h => exact h
                      | 26, h => exact h
                      | 27, h => exact h
                      | j + 28, _ => trivial)
                    clear hP
                    refine wp_region_tail [48, 49, 50, 51, 52, 53, 54, 55, 56, 57, 58, 59, 60, 61, 62, 63, 64, 65, 66, 67, 68, 69, 70, 71, 72, 73, 74, 75, 76] (slotS [48, 49, 50, 51, 52, 53, 54, 55, 56, 57, 58, 59, 60, 61, 62, 63, 64, 65, 66, 67, 68, 69, 70, 71, 72, 73, 74, 75]) (readsS [48, 49, 50, 51, 52, 53, 54, 55, 56, 57, 58, 59, 60, 61, 62, 63, 64, 65, 66, 67, 68, 69, 70, 71, 72, 73, 74, 75]) (RP [48, 49, 50, 51, 52, 53, 54, 55, 56, 57, 58, 59, 60, 61, 62, 63, 64, 65, 66, 67, 68, 69, 70, 71, 72, 73, 74, 75] P) J (fun kt f W => match kt with | 0 => (f 48 = .func (.func f0) #[] #[p0] ∧ f 49 = .agg #[.int .i64 m0, .int .i64 m1, .int .i64 m2, .int .i64 m3] ∧ f 50 = .int .i64 a ∧ f 51 = .int .i64 b ∧ f 52 = .int .i64 r ∧ f 63 = .int .i64 (m3 * G1) ∧ f 75 = .int .i64 (-m3 * G2) ∧ J W) | _ => (Inv (done ++ [⟨⟨m0, m1, m2, m3⟩, a, b, r⟩]) W ∧ EI base bS (.slice (some ⟨gR, 0, none⟩) R.length cR) R d l W ∧ W.heap[bm]? = some (.cells #[.int .i64 m0, .int .i64 m1, .int .i64 m2, .int .i64 m3] 63 (0, 0)))) 28 8 (by decide) (by kernel_rfl) (by kernel_rfl) (by kernel_rfl) (by kernel_rfl) (HJD.out _ HJ0.out) (fun j f q v W hq h => RP.upd hq h) ?_ ?_ ?_ ?_
                    case refine_1 =>
                      intro iq hiq f W hIW hdep0
                      have hdep : ∀ j, depB _ iq j = true → P j (f (slotS [48, 49, 50, 51, 52, 53, 54, 55, 56, 57, 58, 59, 60, 61, 62, 63, 64, 65, 66, 67, 68, 69, 70, 71, 72, 73, 74, 75] j)) W := hdep0
                      clear hdep0
                      generalize ha1 : putsL _ [48, 49, 50, 51, 52, 53, 54, 55, 56, 57, 58, 59, 60, 61, 62, 63, 64, 65, 66, 67, 68, 69, 70, 71, 72, 73, 74, 75, 76] f = a1
                      match iq, hiq, hdep with
                      | 0, _, hdep0 =>
                        have E3 : a1.tmps[3]?.getD undef = .func (.func f0) #[] #[p0] := by rw [← ha1]; exact (putsL_out2 _ _ _ _ (by decide)).trans rfl
                        exact wpOp_val rfl rfl (v := .func (.func f0) #[] #[p0]) (w' := W) (by simp [execOp, go_sem, E3]) ⟨hIW, fun _ h => h, _, by decide, rfl, RP.set ((HPI0.out _ _).2 rfl)⟩
                      | 1, _, hdep0 =>
                        have E11 : a1.tmps[11]?.getD undef = .pointer (some ⟨bm, 0, none⟩) := by rw [← ha1]; exact (putsL_out2 _ _ _ _ (by decide)).trans rfl
                        have v0 : W.cell? ⟨bm, 0, none⟩ = some (.int .i64 m0) := by simpa using HMM.out W hIW 0
                        have v1 : W.cell? ⟨bm, 1, none⟩ = some (.int .i64 m1) := by simpa using HMM.out W hIW 1
                        have v2 : W.cell? ⟨bm, 2, none⟩ = some (.int .i64 m2) := by simpa using HMM.out W hIW 2
                        have v3 : W.cell? ⟨bm, 3, none⟩ = some (.int .i64 m3) := by simpa using HMM.out W hIW 3
                        exact wpOp_val rfl rfl (v := .agg #[.int .i64 m0, .int .i64 m1, .int .i64 m2, .int .i64 m3]) (w' := W) (by simp [execOp, go_sem, E11, v0, v1, v2, v3]) ⟨hIW, fun _ h => h, _, by decide, rfl, RP.set ((HPI1.out _ _).2 rfl)⟩
                      | 2, _, hdep0 =>
                        have E13 : a1.tmps[13]?.getD undef = .int .i64 a := by rw [← ha1]; exact (putsL_out2 _ _ _ _ (by decide)).trans rfl
                        exact wpOp_val rfl rfl (v := .int .i64 a) (w' := W) (by simp [execOp, go_sem, E13]) ⟨hIW, fun _ h => h, _, by decide, rfl, RP.set ((HPI2.out _ _).2 rfl)⟩
                      | 3, _, hdep0 =>
                        have E15 : a1.tmps[15]?.getD undef = .int .i64 b := by rw [← ha1]; exact (putsL_out2 _ _ _ _ (by decide)).trans rfl
                        exact wpOp_val rfl rfl (v := .int .i64 b) (w' := W) (by simp [execOp, go_sem, E15]) ⟨hIW, fun _ h => h, _, by decide, rfl, RP.set ((HPI3.out _ _).2 rfl)⟩
                      | 4, _, hdep0 =>
                        have E17 : a1.tmps[17]?.getD undef = .int .i64 r := by rw [← ha1]; exact (putsL_out2 _ _ _ _ (by decide)).trans rfl
                        exact wpOp_val rfl rfl (v := .int .i64 r) (w' := W) (by simp [execOp, go_sem, E17]) ⟨hIW, fun _ h => h, _, by decide, rfl, RP.set ((HPI4.out _ _).2 rfl)⟩
                      | 5, _, hdep0 =>
                        have E11 : a1.tmps[11]?.getD undef = .pointer (some ⟨bm, 0, none⟩) := by rw [← ha1]; exact (putsL_out2 _ _ _ _ (by decide)).trans rfl
                        exact wpOp_val rfl rfl (v := .pointer (some ⟨bm, 3, none⟩)) (w' := W) (by simp [execOp, go_sem, E11]) ⟨hIW, fun _ h => h, _, by decide, rfl, RP.set ((HPI5.out _ _).2 rfl)⟩
                      | 6, _, hdep0 =>
                        have hd5 := (HPI5.out _ _).1 (hdep0 5 (by kernel_rfl))
                        have E53 : a1.tmps[53]?.getD undef = .pointer (some ⟨bm, 3, none⟩) := by rw [← ha1]; exact (putsL_in2 _ _ _ _ (by decide) (show 53 < 81 from by decide)).trans hd5
                        have v3 : W.cell? ⟨bm, 3, none⟩ = some (.int .i64 m3) := by simpa using HMM.out W hIW 3
                        exact wpOp_val rfl rfl (v := .int .i64 m3) (w' := W) (by simp [execOp, go_sem, E53, v3]) ⟨hIW, fun _ h => h, _, by decide, rfl, RP.set ((HPI6.out _ _).2 rfl)⟩
                      | 7, _, hdep0 =>
                        have E8 : a1.tmps[8]?.getD undef = .map (some bS) := by rw [← ha1]; exact (putsL_out2 _ _ _ _ (by decide)).trans rfl
                        exact wpOp_val rfl rfl (v := .map (some bS)) (w' := W) (by simp [execOp, go_sem, E8]) ⟨hIW, fun _ h => h, _, by decide, rfl, RP.set ((HPI7.out _ _).2 rfl)⟩
                      | 8, _, hdep0 =>
                        have E11 : a1.tmps[11]?.getD undef = .pointer (some ⟨bm, 0, none⟩) := by rw [← ha1]; exact (putsL_out2 _ _ _ _ (by decide)).trans rfl
                        exact wpOp_val rfl rfl (v := .pointer (some ⟨bm, 1, none⟩)) (w' := W) (by simp [execOp, go_sem, E11]) ⟨hIW, fun _ h => h, _, by decide, rfl, RP.set ((HPI8.out _ _).2 rfl)⟩
                      | 9, _, hdep0 =>
                        have hd8 := (HPI8.out _ _).1 (hdep0 8 (by kernel_rfl))
                        have E56 : a1.tmps[56]?.getD undef = .pointer (some ⟨bm, 1, none⟩) := by rw [← ha1]; exact (putsL_in2 _ _ _ _ (by decide) (show 56 < 81 from by decide)).trans hd8
                        have v1 : W.cell? ⟨bm, 1, none⟩ = some (.int .i64 m1) := by simpa using HMM.out W hIW 1
                        exact wpOp_val rfl rfl (v := .int .i64 m1) (w' := W) (by simp [execOp, go_sem, E56, v1]) ⟨hIW, fun _ h => h, _, by decide, rfl, RP.set ((HPI9.out _ _).2 rfl)⟩
                      | 10, _, hdep0 =>
                        have E13 : a1.tmps[13]?.getD undef = .int .i64 a := by rw [← ha1]; exact (putsL_out2 _ _ _ _ (by decide)).trans rfl
                        exact wpOp_val rfl rfl (v := .int .i64 a) (w' := W) (by simp [execOp, go_sem, E13]) ⟨hIW, fun _ h => h, _, by decide, rfl, RP.set ((HPI10.out _ _).2 rfl)⟩
                      | 11, _, hdep0 =>
                        have E15 : a1.tmps[15]?.getD undef = .int .i64 b := by rw [← ha1]; exact (putsL_out2 _ _ _ _ (by decide)).trans rfl
                        exact wpOp_val rfl rfl (v := .int .i64 b) (w' := W) (by simp [execOp, go_sem, E15]) ⟨hIW, fun _ h => h, _, by decide, rfl, RP.set ((HPI11.out _ _).2 rfl)⟩
                      | 12, _, hdep0 =>
                        have E17 : a1.tmps[17]?.getD undef = .int .i64 r := by rw [← ha1]; exact (putsL_out2 _ _ _ _ (by decide)).trans rfl
                        exact wpOp_val rfl rfl (v := .int .i64 r) (w' := W) (by simp [execOp, go_sem, E17]) ⟨hIW, fun _ h => h, _, by decide, rfl, RP.set ((HPI12.out _ _).2 rfl)⟩
                      | 13, _, hdep0 =>
                        have hd9 := (HPI9.out _ _).1 (hdep0 9 (by kernel_rfl))
                        have hd10 := (HPI10.out _ _).1 (hdep0 10 (by kernel_rfl))
                        have hd11 := (HPI11.out _ _).1 (hdep0 11 (by kernel_rfl))
                        have hd12 := (HPI12.out _ _).1 (hdep0 12 (by kernel_rfl))
                        have E57 : a1.tmps[57]?.getD undef = .int .i64 m1 := by rw [← ha1]; exact (putsL_in2 _ _ _ _ (by decide) (show 57 < 81 from by decide)).trans hd9
                        have E58 : a1.tmps[58]?.getD undef = .int .i64 a := by rw [← ha1]; exact (putsL_in2 _ _ _ _ (by decide) (show 58 < 81 from by decide)).trans hd10
                        have E59 : a1.tmps[59]?.getD undef = .int .i64 b := by rw [← ha1]; exact (putsL_in2 _ _ _ _ (by decide) (show 59 < 81 from by decide)).trans hd11
                        have E60 : a1.tmps[60]?.getD undef = .int .i64 r := by rw [← ha1]; exact (putsL_in2 _ _ _ _ (by decide) (show 60 < 81 from by decide)).trans hd12
                        exact wpOp_val rfl rfl (v := .agg #[.int .i64 m1, .int .i64 a, .int .i64 b, .int .i64 r]) (w' := W) (by simp [execOp, go_sem, E57, E58, E59, E60]) ⟨hIW, fun _ h => h, _, by decide, rfl, RP.set ((HPI13.out _ _).2 rfl)⟩
                      | 14, _, hdep0 =>
                        have hd7 := (HPI7.out _ _).1 (hdep0 7 (by kernel_rfl))
                        have hd13 := (HPI13.out _ _).1 (hdep0 13 (by kernel_rfl))
                        have E55 : a1.tmps[55]?.getD undef = .map (some bS) := by rw [← ha1]; exact (putsL_in2 _ _ _ _ (by decide) (show 55 < 81 from by decide)).trans hd7
                        have E61 : a1.tmps[61]?.getD undef = .agg #[.int .i64 m1, .int .i64 a, .int .i64 b, .int .i64 r] := by rw [← ha1]; exact (putsL_in2 _ _ _ _ (by decide) (show 61 < 81 from by decide)).trans hd13
                        have hlk := HL1.out W hIW
                        exact wpOp_val rfl rfl (v := .int .i64 G1) (w' := W) (by simp [execOp, go_sem, E55, E61, hlk]) ⟨hIW, fun _ h => h, _, by decide, rfl, RP.set ((HPI14.out _ _).2 rfl)⟩
                      | 15, _, hdep0 =>
                        have hd6 := (HPI6.out _ _).1 (hdep0 6 (by kernel_rfl))
                        have hd14 := (HPI14.out _ _).1 (hdep0 14 (by kernel_rfl))
                        have E54 : a1.tmps[54]?.getD undef = .int .i64 m3 := by rw [← ha1]; exact (putsL_in2 _ _ _ _ (by decide) (show 54 < 81 from by decide)).trans hd6
                        have E62 : a1.tmps[62]?.getD undef = .int .i64 G1 := by rw [← ha1]; exact (putsL_in2 _ _ _ _ (by decide) (show 62 < 81 from by decide)).trans hd14
                        exact wpOp_val rfl rfl (v := .int .i64 (m3 * G1)) (w' := W) (by simp [execOp, go_sem, E54, E62, hw1]) ⟨hIW, fun _ h => h, _, by decide, rfl, RP.set ((HPI15.out _ _).2 rfl)⟩
                      | 16, _, hdep0 =>
                        have E11 : a1.tmps[11]?.getD undef = .pointer (some ⟨bm, 0, none⟩) := by rw [← ha1]; exact (putsL_out2 _ _ _ _ (by decide)).trans rfl
                        exact wpOp_val rfl rfl (v := .pointer (some ⟨bm, 3, none⟩)) (w' := W) (by simp [execOp, go_sem, E11]) ⟨hIW, fun _ h => h, _, by decide, rfl, RP.set ((HPI16.out _ _).2 rfl)⟩
                      | 17, _, hdep0 =>
                        have hd16 := (HPI16.out _ _).1 (hdep0 16 (by kernel_rfl))
                        have E64 : a1.tmps[64]?.getD undef = .pointer (some ⟨bm, 3, none⟩) := by rw [← ha1]; exact (putsL_in2 _ _ _ _ (by decide) (show 64 < 81 from by decide)).trans hd16
                        have v3 : W.cell? ⟨bm, 3, none⟩ = some (.int .i64 m3) := by simpa using HMM.out W hIW 3
                        exact wpOp_val rfl rfl (v := .int .i64 m3) (w' := W) (by simp [execOp, go_sem, E64, v3]) ⟨hIW, fun _ h => h, _, by decide, rfl, RP.set ((HPI17.out _ _).2 rfl)⟩
                      | 18, _, hdep0 =>
                        have hd17 := (HPI17.out _ _).1 (hdep0 17 (by kernel_rfl))
                        have E65 : a1.tmps[65]?.getD undef = .int .i64 m3 := by rw [← ha1]; exact (putsL_in2 _ _ _ _ (by decide) (show 65 < 81 from by decide)).trans hd17
                        exact wpOp_val rfl rfl (v := .int .i64 (-m3)) (w' := W) (by simp [execOp, go_sem, E65, hw0]) ⟨hIW, fun _ h => h, _, by decide, rfl, RP.set ((HPI18.out _ _).2 rfl)⟩
                      | 19, _, hdep0 =>
                        have E8 : a1.tmps[8]?.getD undef = .map (some bS) := by rw [← ha1]; exact (putsL_out2 _ _ _ _ (by decide)).trans rfl
                        exact wpOp_val rfl rfl (v := .map (some bS)) (w' := W) (by simp [execOp, go_sem, E8]) ⟨hIW, fun _ h => h, _, by decide, rfl, RP.set ((HPI19.out _ _).2 rfl)⟩
                      | 20, _, hdep0 =>
                        have E11 : a1.tmps[11]?.getD undef = .pointer (some ⟨bm, 0, none⟩) := by rw [← ha1]; exact (putsL_out2 _ _ _ _ (by decide)).trans rfl
                        exact wpOp_val rfl rfl (v := .pointer (some ⟨bm, 2, none⟩)) (w' := W) (by simp [execOp, go_sem, E11]) ⟨hIW, fun _ h => h, _, by decide, rfl, RP.set ((HPI20.out _ _).2 rfl)⟩
                      | 21, _, hdep0 =>
                        have hd20 := (HPI20.out _ _).1 (hdep0 20 (by kernel_rfl))
                        have E68 : a1.tmps[68]?.getD undef = .pointer (some ⟨bm, 2, none⟩) := by rw [← ha1]; exact (putsL_in2 _ _ _ _ (by decide) (show 68 < 81 from by decide)).trans hd20
                        have v2 : W.cell? ⟨bm, 2, none⟩ = some (.int .i64 m2) := by simpa using HMM.out W hIW 2
                        exact wpOp_val rfl rfl (v := .int .i64 m2) (w' := W) (by simp [execOp, go_sem, E68, v2]) ⟨hIW, fun _ h => h, _, by decide, rfl, RP.set ((HPI21.out _ _).2 rfl)⟩
                      | 22, _, hdep0 =>
                        have E15 : a1.tmps[15]?.getD undef = .int .i64 b := by rw [← ha1]; exact (putsL_out2 _ _ _ _ (by decide)).trans rfl
                        exact wpOp_val rfl rfl (v := .int .i64 b) (w' := W) (by simp [execOp, go_sem, E15]) ⟨hIW, fun _ h => h, _, by decide, rfl, RP.set ((HPI22.out _ _).2 rfl)⟩
                      | 23, _, hdep0 =>
                        have E13 : a1.tmps[13]?.getD undef = .int .i64 a := by rw [← ha1]; exact (putsL_out2 _ _ _ _ (by decide)).trans rfl
                        exact wpOp_val rfl rfl (v := .int .i64 a) (w' := W) (by simp [execOp, go_sem, E13]) ⟨hIW, fun _ h => h, _, by decide, rfl, RP.set ((HPI23.out _ _).2 rfl)⟩
                      | 24, _, hdep0 =>
                        have E17 : a1.tmps[17]?.getD undef = .int .i64 r := by rw [← ha1]; exact (putsL_out2 _ _ _ _ (by decide)).trans rfl
                        exact wpOp_val rfl rfl (v := .int .i64 r) (w' := W) (by simp [execOp, go_sem, E17]) ⟨hIW, fun _ h => h, _, by decide, rfl, RP.set ((HPI24.out _ _).2 rfl)⟩
                      | 25, _, hdep0 =>
                        have hd21 := (HPI21.out _ _).1 (hdep0 21 (by kernel_rfl))
                        have hd22 := (HPI22.out _ _).1 (hdep0 22 (by kernel_rfl))
                        have hd23 := (HPI23.out _ _).1 (hdep0 23 (by kernel_rfl))
                        have hd24 := (HPI24.out _ _).1 (hdep0 24 (by kernel_rfl))
                        have E69 : a1.tmps[69]?.getD undef = .int .i64 m2 := by rw [← ha1]; exact (putsL_in2 _ _ _ _ (by decide) (show 69 < 81 from by decide)).trans hd21
                        have E70 : a1.tmps[70]?.getD undef = .int .i64 b := by rw [← ha1]; exact (putsL_in2 _ _ _ _ (by decide) (show 70 < 81 from by decide)).trans hd22
                        have E71 : a1.tmps[71]?.getD undef = .int .i64 a := by rw [← ha1]; exact (putsL_in2 _ _ _ _ (by decide) (show 71 < 81 from by decide)).trans hd23
                        have E72 : a1.tmps[72]?.getD undef = .int .i64 r := by rw [← ha1]; exact (putsL_in2 _ _ _ _ (by decide) (show 72 < 81 from by decide)).trans hd24
                        exact wpOp_val rfl rfl (v := .agg #[.int .i64 m2, .int .i64 b, .int .i64 a, .int .i64 r]) (w' := W) (by simp [execOp, go_sem, E69, E70, E71, E72]) ⟨hIW, fun _ h => h, _, by decide, rfl, RP.set ((HPI25.out _ _).2 rfl)⟩
                      | 26, _, hdep0 =>
                        have hd19 := (HPI19.out _ _).1 (hdep0 19 (by kernel_rfl))
                        have hd25 := (HPI25.out _ _).1 (hdep0 25 (by kernel_rfl))
                        have E67 : a1.tmps[67]?.getD undef = .map (some bS) := by rw [← ha1]; exact (putsL_in2 _ _ _ _ (by decide) (show 67 < 81 from by decide)).trans hd19
                        have E73 : a1.tmps[73]?.getD undef = .agg #[.int .i64 m2, .int .i64 b, .int .i64 a, .int .i64 r] := by rw [← ha1]; exact (putsL_in2 _ _ _ _ (by decide) (show 73 < 81 from by decide)).trans hd25
                        have hlk := HL2.out W hIW
                        exact wpOp_val rfl rfl (v := .int .i64 G2) (w' := W) (by simp [execOp, go_sem, E67, E73, hlk]) ⟨hIW, fun _ h => h, _, by decide, rfl, RP.set ((HPI26.out _ _).2 rfl)⟩
                      | 27, _, hdep0 =>
                        have hd18 := (HPI18.out _ _).1 (hdep0 18 (by kernel_rfl))
                        have hd26 := (HPI26.out _ _).1 (hdep0 26 (by kernel_rfl))
                        have E66 : a1.tmps[66]?.getD undef = .int .i64 (-m3) := by rw [← ha1]; exact (putsL_in2 _ _ _ _ (by decide) (show 66 < 81 from by decide)).trans hd18
                        have E74 : a1.tmps[74]?.getD undef = .int .i64 G2 := by rw [← ha1]; exact (putsL_in2 _ _ _ _ (by decide) (show 74 < 81 from by decide)).trans hd26
                        exact wpOp_val rfl rfl (v := .int .i64 (-m3 * G2)) (w' := W) (by simp [execOp, go_sem, E66, E74, hw2]) ⟨hIW, fun _ h => h, _, by decide, rfl, RP.set ((HPI27.out _ _).2 rfl)⟩
                      | iq + 28, h, _ => exact absurd h (by omega)
                    case refine_2 =>
                      intro f W hIW hR
                      have h48 := (HPI0.out _ _).1 (hR 0 (by decide))
                      have h49 := (HPI1.out _ _).1 (hR 1 (by decide))
                      have h50 := (HPI2.out _ _).1 (hR 2 (by decide))
                      have h51 := (HPI3.out _ _).1 (hR 3 (by decide))
                      have h52 := (HPI4.out _ _).1 (hR 4 (by decide))
                      have h63 := (HPI15.out _ _).1 (hR 15 (by decide))
                      have h75 := (HPI27.out _ _).1 (hR 27 (by decide))
                      exact ⟨h48, h49, h50, h51, h52, h63, h75, hIW⟩
                    case refine_3 =>
                      intro iq hsq hiq f W hIt0
                      have hiq2 : iq < 29 := hiq
                      have hIt := hIt0
                      clear hIt0
                      rcases (show iq = 28 by omega) with rfl
                      · clear hsq hiq hiq2
                        obtain ⟨h48, h49, h50, h51, h52, h63, h75, hIW⟩ := hIt
                        generalize ha1 : putsL _ [48, 49, 50, 51, 52, 53, 54, 55, 56, 57, 58, 59, 60, 61, 62, 63, 64, 65, 66, 67, 68, 69, 70, 71, 72, 73, 74, 75, 76] f = a1
                        have E48 : a1.tmps[48]?.getD undef = .func (.func f0) #[] #[p0] := by rw [← ha1]; exact (putsL_in2 _ _ _ _ (by decide) (show 48 < 81 from by decide)).trans h48
                        have E49 : a1.tmps[49]?.getD undef = .agg #[.int .i64 m0, .int .i64 m1, .int .i64 m2, .int .i64 m3] := by rw [← ha1]; exact (putsL_in2 _ _ _ _ (by decide) (show 49 < 81 from by decide)).trans h49
                        have E50 : a1.tmps[50]?.getD undef = .int .i64 a := by rw [← ha1]; exact (putsL_in2 _ _ _ _ (by decide) (show 50 < 81 from by decide)).trans h50
                        have E51 : a1.tmps[51]?.getD undef = .int .i64 b := by rw [← ha1]; exact (putsL_in2 _ _ _ _ (by decide) (show 51 < 81 from by decide)).trans h51
                        have E52 : a1.tmps[52]?.getD undef = .int .i64 r := by rw [← ha1]; exact (putsL_in2 _ _ _ _ (by decide) (show 52 < 81 from by decide)).trans h52
                        have E63 : a1.tmps[63]?.getD undef = .int .i64 (m3 * G1) := by rw [← ha1]; exact (putsL_in2 _ _ _ _ (by decide) (show 63 < 81 from by decide)).trans h63
                        have E75 : a1.tmps[75]?.getD undef = .int .i64 (-m3 * G2) := by rw [← ha1]; exact (putsL_in2 _ _ _ _ (by decide) (show 75 < 81 from by decide)).trans h75
                        refine wpOp_call rfl rfl (n := f0) (vs := #[.agg #[.int .i64 m0, .int .i64 m1, .int .i64 m2, .int .i64 m3], .int .i64 a, .int .i64 b, .int .i64 r, .int .i64 (m3 * G1), .int .i64 (-m3 * G2), p0]) (by have := eg #[.agg #[.int .i64 m0, .int .i64 m1, .int .i64 m2, .int .i64 m3], .int .i64 a, .int .i64 b, .int .i64 r, .int .i64 (m3 * G1), .int .i64 (-m3 * G2), p0] W; simp [execOp, E48, E49, E50, E51, E52, E63, E75, resolve, invoke, go_sem] <;> exact this) (R := fun v w' => v = .tuple #[] ∧ Inv (done ++ [⟨⟨m0, m1, m2, m3⟩, a, b, r⟩]) w' ∧ EI base bS (.slice (some ⟨gR, 0, none⟩) R.length cR) R d l w' ∧ w'.heap[bm]? = some (.cells #[.int .i64 m0, .int .i64 m1, .int .i64 m2, .int .i64 m3] 63 (0, 0))) ((HDX.out W hIW).mono fun e w' hh => (by obtain ⟨rfl, h1, h2, h3⟩ := hh; exact ⟨_, rfl, rfl, h1, h2, h3⟩)) ?_
                        rintro v w' ⟨rfl, hq⟩
                        exact ⟨updF f 76 (.tuple #[]), by rw [← ha1]; exact putsL_put _ _ _ _ _ (by decide), hq⟩
                    case refine_4 =>
                      intro f W hIt
                      simp only [putsL, List.foldl_cons, List.foldl_nil, Act.put, List.setIfInBounds_toArray, List.set_cons_zero, List.set_cons_succ]
                      obtain ⟨h1, h2, h3⟩ := hIt
                      have HN1 := Lib.hid h1
                      have HN2 := Lib.hid h2
                      have HN3 := Lib.hid h3
                      clear h1 h2 h3 HKP HJ0 HJD HJO HJI HMM HL1 HL2 HDX hw0 hw1 hw2
                      go_wp2
                      go_roundw
                      case rel => exact ⟨i4 + 1, by first | rfl | go_num, by omega, by rw [HTK4.out]; exact HN1, HN2, HN3⟩
                      case measure => simp [RowKit.intOf]; omega
                  · obtain rfl : i4 = R.length := by omega
                    go_wp2
                    go_roundw
                    case rel => exact ⟨i3 + 1, by first | rfl | go_num, by omega, by rw [HTK3'.out, HRZ.out]; simpa using HI4, HE4, HX4⟩
                    case measure => simp [RowKit.intOf]; omega
            · obtain rfl : i3 = ng := by omega
              go_wp2
              go_roundw
              case rel => exact ⟨i2 + 1, by first | rfl | go_num, by omega, by rw [HTK2'.out]; have h := HI3; rw [HNG.out, List.take_length] at h; exact h, HE3, HX3⟩
              case measure => simp [RowKit.intOf]; omega
        · obtain rfl : i2 = ng := by omega
          go_wp2
          go_roundw
          case rel => exact ⟨j + 1, by first | rfl | go_num, by omega, by rw [HDN.out]; have h := HI2; rw [HNG.out, List.take_length] at h; exact h, HE2⟩
          case measure => simp [RowKit.intOf]; omega
    · obtain rfl : j = 2 := by omega
      go_wp2
      go_end0
      exact ⟨rfl, HIJ.out⟩

end Go.Proofs.Ytdbpbmejgdbppaa
