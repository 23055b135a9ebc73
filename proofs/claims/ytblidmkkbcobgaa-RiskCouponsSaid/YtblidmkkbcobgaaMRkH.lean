/- The holdings of a debt with their securities, one after the other: what risk's iterator promises of every right register. -/
import Derived.Test.YtblidmkkbcobgaaMSeqP
import Derived.Test.YtblidmkkbcobgaaMG3
import Derived.Test.YtblidmkkbcobgaaMG6
set_option linter.unusedSimpArgs false
set_option linter.unusedVariables false
set_option linter.unusedSimpArgs false
set_option linter.unusedVariables false
namespace Go.Proofs.Ytblidmkkbcobgaa
open Go.RowKit Go.Lib Go.Proofs
attribute [local go_sem] Oper.semAt_some

/-- Cells of an earlier world stay. -/
def KeptC (w A : World) : Prop := w.heap.size ≤ A.heap.size ∧ ∀ (k : Nat) (o : Obj), w.heap[k]? = some o → o.isCells = true → A.heap[k]? = some o
theorem KeptC.refl (w : World) : KeptC w w := ⟨Nat.le_refl _, fun _ _ h _ => h⟩
theorem KeptC.below {w A B : World} (h : KeptC w A) (hb : Below A.heap.size A B) : KeptC w B := ⟨Nat.le_trans h.1 hb.size, fun k o h1 h2 => (hb.block k (obj_lt (h.2 k o h1 h2))).trans (h.2 k o h1 h2)⟩
theorem KeptC.but {S : Nat → Prop} {w A B : World} (h : KeptC w A) (hS : ∀ k, S k → w.heap.size ≤ k) (hk : KeepsBut S A B) : KeptC w B :=
  ⟨Nat.le_trans h.1 hk.1, fun k o h1 h2 => hk.2 k o (h.2 k o h1 h2) h2 fun q => by have := hS k q; have := obj_lt h1; omega⟩
theorem KeptC.of_below {w A : World} {n : Nat} (hn : w.heap.size ≤ n) (h : Below n w A) : KeptC w A := ⟨h.size, fun k o h1 _ => (h.block k (Nat.lt_of_lt_of_le (obj_lt h1) hn)).trans h1⟩
theorem KeptC.cell {w A : World} (h : KeptC w A) {p : Addr} {u : Value} (hc : w.cell? p = some u) : A.cell? p = some u := by
  unfold World.cell? at hc ⊢
  cases hh : w.heap[p.block]? with
  | none => simp [hh] at hc
  | some o =>
    cases o with
    | cells cs T n => rw [h.2 _ _ hh rfl]; rw [hh] at hc; exact hc
    | _ => simp [hh] at hc
theorem ListAt.kept {α : Type} {f : α → List Value} {m : Nat} (hf : Fields f m) {w A : World} {v : Value} {l : List α} (h : ListAt f m w v l) (hk : KeptC w A) : ListAt f m A v l := by
  obtain ⟨h1, ao, cap, rfl, hc, h3⟩ := h
  refine ⟨h1, ao, cap, rfl, hc, ?_⟩
  rcases h3 with h3 | ⟨g, o, rfl, hlt, hcell⟩
  · exact Or.inl h3
  · refine Or.inr ⟨g, o, rfl, Nat.lt_of_lt_of_le hlt hk.1, fun j hj => ?_⟩
    have e := hcell j hj
    have hj2 : j < (cellsL f l).length := by rw [cellsL_len hf]; exact hj
    rw [List.getElem?_eq_getElem hj2] at e ⊢
    exact hk.cell e
theorem RegAt.kept {w A : World} {x y z : Value} {r : Reg} (h : RegAt w x y z r) (hk : KeptC w A) : RegAt A x y z r := ⟨h.secs.kept secF hk, h.hs.kept hldF hk, h.ms.kept mvF hk⟩

/-- A holding with its security, as the iterator hands them on. -/
def heldV (r : Reg) (h : Hld) : Array Value := #[.agg (secAt r.secs h.sec).cells.toArray, .agg (hldC h).toArray]

set_option maxRecDepth 100000 in
set_option maxHeartbeats 8000000 in
theorem riheld_in (r : Reg) (x y z : Value) (w0 w : World) (S : Nat → Prop) (h : RegOk r) (hr : RegAt w0 x y z r) (hk : KeptC w0 w) (hS : ∀ k, S k → w0.heap.size ≤ k ∧ k < w.heap.size) :
    SeqP Try.prog 63 #[.agg #[x, y, z]] #[] (heldV r) (KeepsBut S) r.hs w := by
  intro l J Jx W hW hJ hY h0
  have hkW : KeptC w0 W := hk.below hW
  obtain ⟨ao, cap, rfl, hcap, hcs⟩ := hr.hs.shape hldF
  have hlen := h.hsLen
  have HSZ := Lib.hid hW.size
  have HCS := Lib.hid hcs
  have HREG := Lib.hid hr
  have HS := Lib.hid hS
  have HSL : Hid (r.secs.length ≤ 1000000) := Lib.hid (by have := h.secs.len; omega)
  have HJ := Lib.hid hJ
  have HY := Lib.hid hY
  have HK0 : Hid (KeptC w0 (W.alloc (.cells #[x, .slice ao r.hs.length cap, z] 93))) := Lib.hid (hkW.below (below_alloc _ _))
  have HJ0 : Hid (J [] (W.alloc (.cells #[x, .slice ao r.hs.length cap, z] 93))) := Lib.hid (hJ _ _ _ h0 (below_alloc _ _))
  have HB0 : Hid ((W.alloc (.cells #[x, .slice ao r.hs.length cap, z] 93)).heap[W.heap.size]? = some (.cells #[x, .slice ao r.hs.length cap, z] 93 (0, 0))) := Lib.hid (heap_alloc_new _ _)
  obtain ⟨n, hn⟩ : ∃ n, n = r.hs.length := ⟨_, rfl⟩
  have HN := Lib.hid hn
  rw [← hn] at hcap hlen HK0 HJ0 HB0 ⊢
  obtain ⟨W1, hW1⟩ : ∃ W1, W1 = W.alloc (.cells #[x, .slice ao n cap, z] 93) := ⟨_, rfl⟩
  rw [← hW1] at HK0 HJ0 HB0
  clear hW hJ hY h0 hkW hcs hr hS h hk hn
  refine callsIn_of_wp Try.func63 rfl trivial ?_ rfl
  simp only [Try.ntmps63, List.size_toArray, List.length_cons, List.length_nil, Nat.reduceAdd, Nat.reduceSub, Array.replicate_succ, Array.replicate_zero, List.push_toArray, List.append_toArray, List.nil_append, List.cons_append]
  gi_wp2
  rw [← hW1]
  clear hW1
  gi_loopw [12] (fun iv wr => ∃ k : Nat, iv = .int .i64 (k : Int) ∧ k ≤ n ∧ Hid (J (r.hs.take k) wr) ∧ Hid (KeptC w0 wr) ∧ Hid (wr.heap[W.heap.size]? = some (.cells #[x, .slice ao n cap, z] 93 (0, 0)))) (fun iv _ => n - (RowKit.intOf iv).toNat)
  case atStart => exact ⟨0, rfl, by omega, by simpa using HJ0, HK0, HB0⟩
  case round =>
    clear HJ0 HK0 HB0
    obtain ⟨k, rfl, hkn, HJK, HKK, HB⟩ := hrel
    by_cases hlk : k < n
    · have hkl : k < r.hs.length := by rw [← HN.out]; exact hlk
      obtain ⟨b, o, rfl, hb, hcc⟩ := HCS.out (by omega)
      have HPRE : Hid (r.hs.take k ++ [r.hs[k]] = r.hs.take (k + 1)) := Lib.hid (List.take_succ_eq_append_getElem hkl).symm
      have HPX : Hid ((r.hs.take k ++ [r.hs[k]]) <+: r.hs) := Lib.hid (by rw [HPRE.out]; exact List.take_prefix _ _)
      have HYK := Lib.hid fun A hA => HY.out (r.hs.take k) r.hs[k] A HPX.out hA
      unfold heldV at HYK
      obtain ⟨s, hs⟩ : ∃ s, s = secAt r.secs (r.hs[k]).sec := ⟨_, rfl⟩
      have HF : Hid (∀ A, KeptC w0 A → Calls Try.prog 90 #[.agg #[x, .slice (some ⟨b, o, none⟩) n cap, z], .int .i64 (r.hs[k]).sec] A fun e w' => ∃ c, e = .returned (.tuple #[.agg s.cells.toArray, .bool c]) ∧ Below A.heap.size A w') := Lib.hid fun A hA =>
        (rxFind_any r.secs (r.hs[k]).sec x _ z A (HREG.out.secs.kept secF hA) HSL.out).mono fun e w' ⟨h1, h2⟩ => ⟨_, by rw [h1, hs]; rfl, h2⟩
      rw [← hs] at HYK
      have c0 : wr.cell? ⟨b, o + k * 3, none⟩ = some (.int .i64 (r.hs[k]).sec) := HKK.out.cell (hcc k hkl 0 (by omega))
      have c1 : wr.cell? ⟨b, o + k * 3 + 1, none⟩ = some (.int .i64 (r.hs[k]).who) := HKK.out.cell (hcc k hkl 1 (by omega))
      have c2 : wr.cell? ⟨b, o + k * 3 + 2, none⟩ = some (.int .i64 (r.hs[k]).amt) := HKK.out.cell (hcc k hkl 2 (by omega))
      generalize r.hs[k] = g at *
      obtain ⟨g0, g1, g2⟩ := g
      obtain ⟨t0, t1, t2, t3, t4, t5, t6⟩ := s
      simp only [hldC, Sec.cells] at HYK HF c0 c1 c2
      clear hs hcc
      have hk0 : (0 : Int) ≤ (k : Int) := by omega
      have hk1 : (k : Int) < (n : Int) := by omega
      have hwk : IntKind.i64.wrap ((k : Int) + 1) = (k : Int) + 1 := IntWalk.i64_in _ (by omega)
      obtain ⟨W2, hW2⟩ : ∃ W2, W2 = wr.alloc (.cells #[.int .i64 g0, .int .i64 g1, .int .i64 g2] 53) := ⟨_, rfl⟩
      have HK2 : Hid (KeptC w0 W2) := Lib.hid (by rw [hW2]; exact HKK.out.below (below_alloc _ _))
      have HF2 := Lib.hid (HF.out W2 HK2.out)
      have HB2 : Hid (Below wr.heap.size wr W2) := Lib.hid (by rw [hW2]; exact below_alloc _ _)
      have HX2 : Hid (W2.heap[wr.heap.size]? = some (.cells #[.int .i64 g0, .int .i64 g1, .int .i64 g2] 53 (0, 0))) := Lib.hid (by rw [hW2]; exact heap_alloc_new _ _)
      have HX0 : Hid (W2.heap[W.heap.size]? = some (.cells #[x, .slice (some ⟨b, o, none⟩) n cap, z] 93 (0, 0))) := Lib.hid (obj_below HB.out HB2.out)
      have hx0 := HX0.out
      have a0 := obj_cell hx0 0
      have a1 := obj_cell hx0 1
      have a2 := obj_cell hx0 2
      have hx2 := HX2.out
      have d0 := obj_cell hx2 0
      simp at a0 a1 a2 d0
      have HOLD : Hid (∀ A, Below W2.heap.size W2 A → J (r.hs.take k) A ∧ KeptC w0 A ∧ A.heap[W.heap.size]? = some (.cells #[x, .slice (some ⟨b, o, none⟩) n cap, z] 93 (0, 0)) ∧ A.heap[wr.heap.size]? = some (.cells #[.int .i64 g0, .int .i64 g1, .int .i64 g2] 53 (0, 0))) := Lib.hid fun A hA =>
        ⟨HJ.out _ _ _ HJK.out (HB2.out.trans (hA.mono HB2.out.size)), HK2.out.below hA, obj_below HX0.out hA, obj_below HX2.out hA⟩
      rw [hW2] at HF2 a0 a1 a2 d0 HOLD
      clear hx0 hx2 HX0 HX2 HB2 HK2 HF
      gi_wp2_with (refine ⟨trivial, rfl, ?_⟩; gi_at_call 90; refine (callsIn_wide.2 HF2.out).mono ?_; rintro e W3 ⟨cf, rfl, hb3⟩; obtain ⟨hJ4, hK4, hX4, hG4⟩ := HOLD.out _ (hb3.alloc hb3.size (.cells #[.int .i64 t0, .int .i64 t1, .int .i64 t2, .int .i64 t3, .int .i64 t4, .int .i64 t5, .bool t6] 55)); obtain ⟨fn, tmps, assign, body, hy, hR⟩ := HYK.out _ hJ4; (have q0 := obj_cell hG4 0); (have q1 := obj_cell hG4 1); (have q2 := obj_cell hG4 2); simp at q0 q1 q2; (have HX4 := Lib.hid hX4); (have HK4 := Lib.hid hK4); clear hJ4 hX4 hK4 hG4)
      refine ⟨rfl, hR.mono ?_⟩
      rintro e W5 (⟨rfl, hJ5, hk5⟩ | ⟨rfl, hJx5⟩)
      · have hX5 := hk5.2 _ _ HX4.out rfl (fun q => by have := (HS.out _ q).2; have := HSZ.out; omega)
        have hK5 := HK4.out.but (fun k q => (HS.out k q).1) hk5
        rw [HPRE.out] at hJ5
        have HJ5 := Lib.hid hJ5
        have HX5 := Lib.hid hX5
        have HK5 := Lib.hid hK5
        clear hJ5 hX5 hK5 hk5
        gi_wp2
        go_roundw
        case rel => exact ⟨k + 1, by first | rfl | go_num, by omega, HJ5, HK5, HX5⟩
        case measure => simp [RowKit.intOf]; omega
      · gi_wp2
        refine bodyPost_ret (results_none rfl _ _ _) rfl ?_
        exact ⟨⟨_, rfl⟩, Or.inr ⟨_, HPX.out, hJx5⟩⟩
    · obtain rfl : k = n := by omega
      gi_wp2
      go_end0
      exact ⟨⟨_, rfl⟩, Or.inl (by have := HJK.out; rw [HN.out, List.take_length] at this; exact this)⟩

end Go.Proofs.Ytblidmkkbcobgaa
