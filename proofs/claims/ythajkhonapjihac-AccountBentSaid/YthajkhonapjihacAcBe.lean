/- An account of which a balance, or the amount of an entry, was changed is not right: for every tape. -/
import Derived.Test.YthajkhonapjihacAcSr
import Derived.Test.YthajkhonapjihacAcDy
set_option linter.unusedSimpArgs false
set_option linter.unusedVariables false
namespace Go.Proofs.Ythajkhonapjihac
open Go.RowKit Go.Lib Go.Proofs

theorem SubsAt.apart {w w' : World} {ao : Option Addr} {n cap : Nat} {l : List SubA} {b0 : Nat} (h : SubsAt w (.slice ao n cap) l) (hg : w.grownBy w' (some b0)) (hne : 0 < l.length → ∀ b o, ao = some ⟨b, o, none⟩ → b ≠ b0) : SubsAt w' (.slice ao n cap) l := by
  obtain ⟨h1, ao', cap', h2, h3, h4⟩ := h
  refine ⟨h1, ao', cap', h2, h3, ?_⟩
  injection h2 with e1 _ e3
  subst e1
  by_cases h0 : l.length = 0
  · exact Or.inl h0
  · rcases h4 with h4 | ⟨b, o, rfl, hb, hc⟩
    · exact Or.inl h4
    · have := hne (by omega) b o rfl
      refine Or.inr ⟨b, o, rfl, Nat.lt_of_lt_of_le hb hg.size, fun j hj => ?_⟩
      rw [← hc j hj]
      unfold World.cell?
      simp only
      rw [hg.block b hb (by simp [this])]
theorem EntsAt.apart {w w' : World} {ao : Option Addr} {n cap : Nat} {l : List Ent} {b0 : Nat} (h : EntsAt w (.slice ao n cap) l) (hg : w.grownBy w' (some b0)) (hne : 0 < l.length → ∀ b o, ao = some ⟨b, o, none⟩ → b ≠ b0) : EntsAt w' (.slice ao n cap) l := by
  obtain ⟨h1, ao', cap', h2, h3, h4⟩ := h
  refine ⟨h1, ao', cap', h2, h3, ?_⟩
  injection h2 with e1 _ e3
  subst e1
  by_cases h0 : l.length = 0
  · exact Or.inl h0
  · rcases h4 with h4 | ⟨b, o, rfl, hb, hc⟩
    · exact Or.inl h4
    · have := hne (by omega) b o rfl
      refine Or.inr ⟨b, o, rfl, Nat.lt_of_lt_of_le hb hg.size, fun j hj => ?_⟩
      rw [← hc j hj]
      unfold World.cell?
      simp only
      rw [hg.block b hb (by simp [this])]
theorem SubsAt.where_ {w : World} {ao : Option Addr} {n cap : Nat} {l : List SubA} (h : SubsAt w (.slice ao n cap) l) : 0 < l.length → ∀ b o, ao = some ⟨b, o, none⟩ → b < w.heap.size := by
  obtain ⟨h1, ao', cap', h2, h3, h4⟩ := h
  injection h2 with e1 _ e3
  subst e1
  intro h0 b o he
  rcases h4 with h4 | ⟨b', o', e, hb, -⟩
  · omega
  · rw [he] at e
    injection e with e
    injection e with e4
    omega
theorem EntsAt.where_ {w : World} {ao : Option Addr} {n cap : Nat} {l : List Ent} (h : EntsAt w (.slice ao n cap) l) : 0 < l.length → ∀ b o, ao = some ⟨b, o, none⟩ → b < w.heap.size := by
  obtain ⟨h1, ao', cap', h2, h3, h4⟩ := h
  injection h2 with e1 _ e3
  subst e1
  intro h0 b o he
  rcases h4 with h4 | ⟨b', o', e, hb, -⟩
  · omega
  · rw [he] at e
    injection e with e
    injection e with e4
    omega
theorem cellsN_set : ∀ (l : List Ent) (i : Nat) (x : Int), i < l.length → (cellsN l).set (i * 6 + 4) (.int .i64 x) = cellsN (l.set i { entAt l i with amount := x })
  | [], _, _, h => by simp at h
  | e :: l, 0, x, _ => rfl
  | e :: l, i + 1, x, h => by
    have ih := cellsN_set l i x (by simpa using h)
    rw [show (i + 1) * 6 + 4 = (i * 6 + 4) + 1 + 1 + 1 + 1 + 1 + 1 by omega]
    simp only [cellsN, Ent.cells, List.cons_append, List.nil_append, List.set_cons_succ, ih]
    rfl
def R12 (tb bC h m c6 : Nat) (l : List Ent) (j : Nat) (f : Nat → Value) (W : World) : Prop :=
  match j with
  | 0 => f 45 = .pointer (some ⟨bC, 2, none⟩)
  | 1 => f 46 = .slice (some ⟨h, 0, none⟩) m c6
  | 2 => f 47 = .pointer (some ⟨tb, 0, none⟩)
  | 3 => f 48 = .pointer (some ⟨bC, 2, none⟩)
  | 4 => f 49 = .slice (some ⟨h, 0, none⟩) m c6
  | 5 => f 50 = .int .i64 (m : Int)
  | 6 => ∃ r : Nat, r < m ∧ f 51 = .int .i64 r
  | 7 => ∃ r : Nat, r < m ∧ f 51 = .int .i64 r ∧ f 52 = .pointer (some ⟨h, r * 6, none⟩)
  | 8 => ∃ r : Nat, r < m ∧ f 51 = .int .i64 r ∧ f 53 = .pointer (some ⟨h, r * 6 + 4, none⟩)
  | 9 => ∃ r : Nat, r < m ∧ f 51 = .int .i64 r ∧ f 54 = .int .i64 (entAt l r).amount
  | 10 => ∃ r : Nat, r < m ∧ f 51 = .int .i64 r ∧ f 55 = .int .i64 ((entAt l r).amount + 1)
  | 11 => ∃ r : Nat, r < m ∧ f 51 = .int .i64 r ∧ f 56 = .pointer (some ⟨h, r * 6, none⟩)
  | 12 => ∃ r : Nat, r < m ∧ f 51 = .int .i64 r ∧ f 57 = .pointer (some ⟨h, r * 6 + 4, none⟩)
  | _ => True
def slot12 (j : Nat) : Nat := if j < 13 then 45 + j else 999
def reads12 (j : Nat) : List Nat := if j < 7 then [45 + j] else if j < 13 then [51, 45 + j] else []
theorem R12.upd {tb bC h m c6 : Nat} {l : List Ent} {f : Nat → Value} {W : World} {q : Nat} {v : Value} : ∀ {j : Nat}, ¬ q ∈ reads12 j → R12 tb bC h m c6 l j f W → R12 tb bC h m c6 l j (updF f q v) W
  | 0, hq, h => by
    have e : updF f q v 45 = f 45 := updF_other f v (fun e => hq (by rw [← e]; simp [reads12]))
    unfold R12 at h ⊢
    simp only [e]
    exact h
  | 1, hq, h => by
    have e : updF f q v 46 = f 46 := updF_other f v (fun e => hq (by rw [← e]; simp [reads12]))
    unfold R12 at h ⊢
    simp only [e]
    exact h
  | 2, hq, h => by
    have e : updF f q v 47 = f 47 := updF_other f v (fun e => hq (by rw [← e]; simp [reads12]))
    unfold R12 at h ⊢
    simp only [e]
    exact h
  | 3, hq, h => by
    have e : updF f q v 48 = f 48 := updF_other f v (fun e => hq (by rw [← e]; simp [reads12]))
    unfold R12 at h ⊢
    simp only [e]
    exact h
  | 4, hq, h => by
    have e : updF f q v 49 = f 49 := updF_other f v (fun e => hq (by rw [← e]; simp [reads12]))
    unfold R12 at h ⊢
    simp only [e]
    exact h
  | 5, hq, h => by
    have e : updF f q v 50 = f 50 := updF_other f v (fun e => hq (by rw [← e]; simp [reads12]))
    unfold R12 at h ⊢
    simp only [e]
    exact h
  | 6, hq, h => by
    have e : updF f q v 51 = f 51 := updF_other f v (fun e => hq (by rw [← e]; simp [reads12]))
    unfold R12 at h ⊢
    simp only [e]
    exact h
  | 7, hq, h => by
    have e : updF f q v 52 = f 52 := updF_other f v (fun e => hq (by rw [← e]; simp [reads12]))
    have e2 : updF f q v 51 = f 51 := updF_other f v (fun e => hq (by rw [← e]; simp [reads12]))
    unfold R12 at h ⊢
    simp only [e, e2]
    exact h
  | 8, hq, h => by
    have e : updF f q v 53 = f 53 := updF_other f v (fun e => hq (by rw [← e]; simp [reads12]))
    have e2 : updF f q v 51 = f 51 := updF_other f v (fun e => hq (by rw [← e]; simp [reads12]))
    unfold R12 at h ⊢
    simp only [e, e2]
    exact h
  | 9, hq, h => by
    have e : updF f q v 54 = f 54 := updF_other f v (fun e => hq (by rw [← e]; simp [reads12]))
    have e2 : updF f q v 51 = f 51 := updF_other f v (fun e => hq (by rw [← e]; simp [reads12]))
    unfold R12 at h ⊢
    simp only [e, e2]
    exact h
  | 10, hq, h => by
    have e : updF f q v 55 = f 55 := updF_other f v (fun e => hq (by rw [← e]; simp [reads12]))
    have e2 : updF f q v 51 = f 51 := updF_other f v (fun e => hq (by rw [← e]; simp [reads12]))
    unfold R12 at h ⊢
    simp only [e, e2]
    exact h
  | 11, hq, h => by
    have e : updF f q v 56 = f 56 := updF_other f v (fun e => hq (by rw [← e]; simp [reads12]))
    have e2 : updF f q v 51 = f 51 := updF_other f v (fun e => hq (by rw [← e]; simp [reads12]))
    unfold R12 at h ⊢
    simp only [e, e2]
    exact h
  | 12, hq, h => by
    have e : updF f q v 57 = f 57 := updF_other f v (fun e => hq (by rw [← e]; simp [reads12]))
    have e2 : updF f q v 51 = f 51 := updF_other f v (fun e => hq (by rw [← e]; simp [reads12]))
    unfold R12 at h ⊢
    simp only [e, e2]
    exact h
  | j + 13, _, h => h

def SBox3 (tb : Nat) (v : Value) (W : World) : Prop := ∃ b : Nat, v = .slice (some ⟨b, 0, none⟩) 3 3 ∧ tb < b ∧ W.heap[b]? = some (.cells #[.int .i64 1, .int .i64 (-1), .int .i64 100] 3 (0, 0))
def R5 (tb bB g c5 : Nat) (l : List SubA) (j : Nat) (f : Nat → Value) (W : World) : Prop :=
  match j with
  | 0 => f 16 = .pointer (some ⟨bB, 1, none⟩)
  | 1 => f 17 = .slice (some ⟨g, 0, none⟩) 4 c5
  | 2 => f 18 = .pointer (some ⟨tb, 0, none⟩)
  | 3 => f 19 = .pointer (some ⟨bB, 1, none⟩)
  | 4 => f 20 = .slice (some ⟨g, 0, none⟩) 4 c5
  | 5 => f 21 = .int .i64 4
  | 6 => ∃ r : Nat, r < 4 ∧ f 22 = .int .i64 r
  | 7 => ∃ r : Nat, r < 4 ∧ f 22 = .int .i64 r ∧ f 23 = .pointer (some ⟨g, r * 2, none⟩)
  | 8 => ∃ r : Nat, r < 4 ∧ f 22 = .int .i64 r ∧ f 24 = .pointer (some ⟨g, r * 2 + 1, none⟩)
  | 9 => ∃ r : Nat, r < 4 ∧ f 22 = .int .i64 r ∧ f 25 = .int .i64 (subAt l r).bal
  | 10 => f 26 = .pointer (some ⟨tb, 0, none⟩)
  | 11 => SBox3 tb (f 27) W
  | 12 => ∃ x : Int, (x = 1 ∨ x = -1 ∨ x = 100) ∧ f 28 = .int .i64 x
  | 13 => ∃ (r : Nat) (x : Int), r < 4 ∧ (x = 1 ∨ x = -1 ∨ x = 100) ∧ f 22 = .int .i64 r ∧ f 29 = .int .i64 ((subAt l r).bal + x)
  | 14 => ∃ r : Nat, r < 4 ∧ f 22 = .int .i64 r ∧ f 30 = .pointer (some ⟨g, r * 2, none⟩)
  | 15 => ∃ r : Nat, r < 4 ∧ f 22 = .int .i64 r ∧ f 31 = .pointer (some ⟨g, r * 2 + 1, none⟩)
  | _ => True
def slot5 (j : Nat) : Nat := if j < 16 then 16 + j else 999
def reads5 (j : Nat) : List Nat := if j < 7 then [16 + j] else if j = 10 ∨ j = 11 ∨ j = 12 then [16 + j] else if j < 16 then [22, 16 + j] else []
theorem R5.keep {tb bB g c5 : Nat} {l : List SubA} {f : Nat → Value} {W W' : World} (hk : Keep tb W W') : ∀ {j : Nat}, R5 tb bB g c5 l j f W → R5 tb bB g c5 l j f W'
  | 0, h => h | 1, h => h | 2, h => h | 3, h => h | 4, h => h | 5, h => h | 6, h => h | 7, h => h | 8, h => h | 9, h => h | 10, h => h
  | 11, ⟨b, h1, h2, h3⟩ => ⟨b, h1, h2, hk _ _ (by omega) h3⟩
  | 12, h => h | 13, h => h | 14, h => h | 15, h => h
  | j + 16, h => h
theorem R5.upd {tb bB g c5 : Nat} {l : List SubA} {f : Nat → Value} {W : World} {q : Nat} {v : Value} : ∀ {j : Nat}, ¬ q ∈ reads5 j → R5 tb bB g c5 l j f W → R5 tb bB g c5 l j (updF f q v) W
  | 0, hq, h => by
    have e : updF f q v 16 = f 16 := updF_other f v (fun e => hq (by rw [← e]; simp [reads5]))
    unfold R5 at h ⊢
    simp only [e]
    exact h
  | 1, hq, h => by
    have e : updF f q v 17 = f 17 := updF_other f v (fun e => hq (by rw [← e]; simp [reads5]))
    unfold R5 at h ⊢
    simp only [e]
    exact h
  | 2, hq, h => by
    have e : updF f q v 18 = f 18 := updF_other f v (fun e => hq (by rw [← e]; simp [reads5]))
    unfold R5 at h ⊢
    simp only [e]
    exact h
  | 3, hq, h => by
    have e : updF f q v 19 = f 19 := updF_other f v (fun e => hq (by rw [← e]; simp [reads5]))
    unfold R5 at h ⊢
    simp only [e]
    exact h
  | 4, hq, h => by
    have e : updF f q v 20 = f 20 := updF_other f v (fun e => hq (by rw [← e]; simp [reads5]))
    unfold R5 at h ⊢
    simp only [e]
    exact h
  | 5, hq, h => by
    have e : updF f q v 21 = f 21 := updF_other f v (fun e => hq (by rw [← e]; simp [reads5]))
    unfold R5 at h ⊢
    simp only [e]
    exact h
  | 6, hq, h => by
    have e : updF f q v 22 = f 22 := updF_other f v (fun e => hq (by rw [← e]; simp [reads5]))
    unfold R5 at h ⊢
    simp only [e]
    exact h
  | 7, hq, h => by
    have e : updF f q v 23 = f 23 := updF_other f v (fun e => hq (by rw [← e]; simp [reads5]))
    have e2 : updF f q v 22 = f 22 := updF_other f v (fun e => hq (by rw [← e]; simp [reads5]))
    unfold R5 at h ⊢
    simp only [e, e2]
    exact h
  | 8, hq, h => by
    have e : updF f q v 24 = f 24 := updF_other f v (fun e => hq (by rw [← e]; simp [reads5]))
    have e2 : updF f q v 22 = f 22 := updF_other f v (fun e => hq (by rw [← e]; simp [reads5]))
    unfold R5 at h ⊢
    simp only [e, e2]
    exact h
  | 9, hq, h => by
    have e : updF f q v 25 = f 25 := updF_other f v (fun e => hq (by rw [← e]; simp [reads5]))
    have e2 : updF f q v 22 = f 22 := updF_other f v (fun e => hq (by rw [← e]; simp [reads5]))
    unfold R5 at h ⊢
    simp only [e, e2]
    exact h
  | 10, hq, h => by
    have e : updF f q v 26 = f 26 := updF_other f v (fun e => hq (by rw [← e]; simp [reads5]))
    unfold R5 at h ⊢
    simp only [e]
    exact h
  | 11, hq, h => by
    have e : updF f q v 27 = f 27 := updF_other f v (fun e => hq (by rw [← e]; simp [reads5]))
    unfold R5 at h ⊢
    simp only [e]
    exact h
  | 12, hq, h => by
    have e : updF f q v 28 = f 28 := updF_other f v (fun e => hq (by rw [← e]; simp [reads5]))
    unfold R5 at h ⊢
    simp only [e]
    exact h
  | 13, hq, h => by
    have e : updF f q v 29 = f 29 := updF_other f v (fun e => hq (by rw [← e]; simp [reads5]))
    have e2 : updF f q v 22 = f 22 := updF_other f v (fun e => hq (by rw [← e]; simp [reads5]))
    unfold R5 at h ⊢
    simp only [e, e2]
    exact h
  | 14, hq, h => by
    have e : updF f q v 30 = f 30 := updF_other f v (fun e => hq (by rw [← e]; simp [reads5]))
    have e2 : updF f q v 22 = f 22 := updF_other f v (fun e => hq (by rw [← e]; simp [reads5]))
    unfold R5 at h ⊢
    simp only [e, e2]
    exact h
  | 15, hq, h => by
    have e : updF f q v 31 = f 31 := updF_other f v (fun e => hq (by rw [← e]; simp [reads5]))
    have e2 : updF f q v 22 = f 22 := updF_other f v (fun e => hq (by rw [← e]; simp [reads5]))
    unfold R5 at h ⊢
    simp only [e, e2]
    exact h
  | j + 16, _, h => h


set_option maxRecDepth 100000 in
set_option maxHeartbeats 8000000 in
theorem acbent_any (v : Value) (n : Nat) (w : World) (hi : IntsAt w v n w.heap.size) (hn : n ≤ 9223372036854775807) :
    Calls Try.prog 5 #[v] w fun e w' => e = .returned (.bool true) ∧ Below w.heap.size w w' := by
  have HNEW := Lib.hid (sNew_any v n w hi hn)
  have HSN := Lib.hid sane23_true
  obtain ⟨i0, hi0, hz0, hz1, hz2⟩ := infoU_parts
  clear hi hn
  go_enter Try.func5, Try.ntmps5
  go_wp2_with fail
  refine (HNEW.out).mono ?_
  rintro e w1 ⟨rfl, t1, b1⟩
  obtain ⟨tb, htb⟩ : ∃ tb, tb = w.heap.size := ⟨_, rfl⟩
  rw [← htb] at t1 ⊢
  have HACC : Hid (Calls Try.prog 17 #[.pointer (some ⟨tb, 0, none⟩), .int .i64 10] w1 (AccPost tb 10 w1)) := Lib.hid (sAccount_any tb 10 w1 t1 (by decide))
  have HW1 := Lib.hid b1
  have HTB := Lib.hid htb
  clear t1 b1 HNEW htb
  go_wp2_with fail
  refine (HACC.out).mono ?_
  rintro e w2 ⟨a, su, en, rfl, hmd, hs, he, hsi, hcr⟩
  have hsl : a.subs.length = 4 := by
    have := congrArg List.length hmd.ids
    simpa using this
  obtain ⟨m, hml⟩ : ∃ m, m = a.ents.length := ⟨_, rfl⟩
  obtain ⟨cr, hcrl⟩ : ∃ cr, cr = a.credit := ⟨_, rfl⟩
  obtain ⟨aS, cS, rfl, -, -⟩ := hs.shape
  obtain ⟨aE, cE, rfl, -, -⟩ := he.shape
  rw [hsl] at hs
  rw [← hml] at he
  rw [hsl, ← hml, ← hcrl]
  have HOK := Lib.hid hmd.right
  have HSL := Lib.hid hsl
  have HML := Lib.hid hml
  have HCR := Lib.hid hcrl
  have hm10 : m ≤ 10 := by rw [hml]; exact hmd.len
  have HBL : Hid (∀ q ∈ a.subs, -1000000000000 ≤ q.bal ∧ q.bal ≤ 1000000000000000) := Lib.hid (by
    have hpl := (checkM_zero.1 hmd.right).2.2.1
    unfold plainM at hpl
    simp only [Bool.and_eq_true] at hpl
    exact bals_wide hpl.1 (right_bals hmd.right))
  have HAM := Lib.hid (right_amt hmd.right)
  have HS4 : Hid (SI w1 tb ((w2.alloc (.cells #[.int .i64 cr, .slice aS 4 cS, .slice aE m cE] 28)).alloc (.cells #[.int .i64 cr, .slice aS 4 cS, .slice aE m cE] 28))) := Lib.hid ((hsi.alloc _).alloc _)
  have HSU : Hid (SubsAt ((w2.alloc (.cells #[.int .i64 cr, .slice aS 4 cS, .slice aE m cE] 28)).alloc (.cells #[.int .i64 cr, .slice aS 4 cS, .slice aE m cE] 28)) (.slice aS 4 cS) a.subs) := Lib.hid (hs.below (below2 _ _ _))
  have HEN : Hid (EntsAt ((w2.alloc (.cells #[.int .i64 cr, .slice aS 4 cS, .slice aE m cE] 28)).alloc (.cells #[.int .i64 cr, .slice aS 4 cS, .slice aE m cE] 28)) (.slice aE m cE) a.ents) := Lib.hid (he.below (below2 _ _ _))
  have HXA := Lib.hid (alloc1_at w2 (.cells #[.int .i64 cr, .slice aS 4 cS, .slice aE m cE] 28) (.cells #[.int .i64 cr, .slice aS 4 cS, .slice aE m cE] 28))
  have HXB := Lib.hid (alloc2_at w2 (.cells #[.int .i64 cr, .slice aS 4 cS, .slice aE m cE] 28) (.cells #[.int .i64 cr, .slice aS 4 cS, .slice aE m cE] 28))
  have hne : tb < w2.heap.size := hsi.src.lt
  have hw12 : w1.heap.size ≤ w2.heap.size := hsi.old.size
  clear hs he hsi hmd hcr hsl hml hcrl HACC
  go_upto_region 4 with fail
  generalize hbA : w2.heap.size = bA at *
  generalize (w2.alloc (.cells #[.int .i64 cr, .slice aS 4 cS, .slice aE m cE] 28)).alloc (.cells #[.int .i64 cr, .slice aS 4 cS, .slice aE m cE] 28) = w4 at *
  have hBlt : bA + 1 < w4.heap.size := obj_lt HXB.out
  have HNEWS : Hid (4 = 0 ∨ ∃ ad : Addr, aS = some ad ∧ ∀ j u, (cellsU a.subs)[j]? = some u → w4.cell? (ad.add j) = some u) := Lib.hid (by rw [cellsU_L]; exact newsOf subF (subs_list.1 HSU.out))
  have HLEN : Hid ((cellsU a.subs).length = 4 * 2) := Lib.hid (by rw [cellsU_len, HSL.out])
  have v1 := obj_cell HXA.out 1
  simp at v1
  clear hbA
  go_wp2_with (at_builtin; refine wpList_ownO _ rfl _ _ 25 rfl w4.heap.size 41 i0 (.agg #[.int .i64 0, .int .i64 0]) 2 16 Try.underlying25 hi0 hz0 hz1 hz2 rfl (by decide) (.slice none 0 0) 0 [] rfl (World.ownsRow_nil _ _ _ _) aS 4 cS (cellsU a.subs) rfl HLEN.out HNEWS.out (cellsU_one _) (by unfold maxLen; omega) (by omega) (Nat.le_refl _) ?_; intro v5 w5 hown5 hgr5; (rw [Nat.zero_add, List.nil_append] at hown5); (obtain ⟨g, c5, rfl, hg5, hc5⟩ := owns_shape hown5 (by omega)); (have hb5 : w5.heap[(bA + 1)]? = some (.cells #[.int .i64 cr, .slice aS 4 cS, .slice aE m cE] 28 (0, 0)) := (hgr5.block _ hBlt (by simp [Value.ownBlock])).trans HXB.out); (have q1 := obj_cell hb5 1); (have f1 := obj_free hb5 1); (simp at q1))
  have HX6 : Hid ((w5.setCell ⟨bA + 1, 1, none⟩ (.slice (some ⟨g, 0, none⟩) 4 c5)).heap[bA + 1]? = some (.cells #[.int .i64 cr, .slice (some ⟨g, 0, none⟩) 4 c5, .slice aE m cE] 28 (0, 0))) := Lib.hid (by
    have := obj_set hb5 1 (.slice (some ⟨g, 0, none⟩) 4 c5)
    simpa using this)
  have hb45 := below_grownBy (show w4.grownBy w5 none from hgr5)
  have HO6 : Hid ((w5.setCell ⟨bA + 1, 1, none⟩ (.slice (some ⟨g, 0, none⟩) 4 c5)).ownsRow w4.heap.size 41 2 (.slice (some ⟨g, 0, none⟩) 4 c5) 4 (cellsU a.subs)) := Lib.hid (hown5.kept (setCell_grown 1 _) (ownBlock_ne hown5 (bA + 1) hBlt))
  have HS6 : Hid (SI w1 tb (w5.setCell ⟨bA + 1, 1, none⟩ (.slice (some ⟨g, 0, none⟩) 4 c5))) := Lib.hid ((HS4.out.below hb45).set (by omega) 1 _)
  have HE6 : Hid (EntsAt (w5.setCell ⟨bA + 1, 1, none⟩ (.slice (some ⟨g, 0, none⟩) 4 c5)) (.slice aE m cE) a.ents) := Lib.hid ((HEN.out.below hb45).keep (lone_acc hb5) (setCell_grown 1 _))
  have HU6 : Hid (SubsAt (w5.setCell ⟨bA + 1, 1, none⟩ (.slice (some ⟨g, 0, none⟩) 4 c5)) (.slice aS 4 cS) a.subs) := Lib.hid ((HSU.out.below hb45).keep (lone_acc hb5) (setCell_grown 1 _))
  have HEB : Hid (0 < a.ents.length → ∀ b o, aE = some ⟨b, o, none⟩ → b < w4.heap.size) := Lib.hid HEN.out.where_
  have HSB : Hid (0 < a.subs.length → ∀ b o, aS = some ⟨b, o, none⟩ → b < w4.heap.size) := Lib.hid HSU.out.where_
  have HA6 : Hid ((w5.setCell ⟨bA + 1, 1, none⟩ (.slice (some ⟨g, 0, none⟩) 4 c5)).heap[bA]? = some (.cells #[.int .i64 cr, .slice aS 4 cS, .slice aE m cE] 28 (0, 0))) := Lib.hid ((Below.heap_setCell w5 _ _ _ (by show bA ≠ bA + 1; omega)).trans (obj_below HXA.out hb45))
  have hgl : bA + 1 < g := Nat.lt_of_lt_of_le hBlt hg5
  clear hb5 hb45 hown5 hgr5 q1 f1 HS4 HSU HEN HXA HXB HNEWS HLEN v1
  go_upto_region 5 with fail
  generalize w5.setCell ⟨bA + 1, 1, none⟩ (.slice (some ⟨g, 0, none⟩) 4 c5) = w6 at *
  obtain ⟨I, hI⟩ : ∃ I, I = fun W : World => SI w1 tb W ∧ W.heap[bA]? = some (.cells #[.int .i64 cr, .slice aS 4 cS, .slice aE m cE] 28 (0, 0)) ∧ W.heap[bA + 1]? = some (.cells #[.int .i64 cr, .slice (some ⟨g, 0, none⟩) 4 c5, .slice aE m cE] 28 (0, 0)) ∧ EntsAt W (.slice aE m cE) a.ents ∧ SubsAt W (.slice aS 4 cS) a.subs ∧ W.ownsRow w4.heap.size 41 2 (.slice (some ⟨g, 0, none⟩) 4 c5) 4 (cellsU a.subs) := ⟨_, rfl⟩
  have HIO : Hid (∀ W, I W → SI w1 tb W ∧ W.heap[bA]? = some (.cells #[.int .i64 cr, .slice aS 4 cS, .slice aE m cE] 28 (0, 0)) ∧ W.heap[bA + 1]? = some (.cells #[.int .i64 cr, .slice (some ⟨g, 0, none⟩) 4 c5, .slice aE m cE] 28 (0, 0)) ∧ EntsAt W (.slice aE m cE) a.ents ∧ SubsAt W (.slice aS 4 cS) a.subs ∧ W.ownsRow w4.heap.size 41 2 (.slice (some ⟨g, 0, none⟩) 4 c5) 4 (cellsU a.subs)) := Lib.hid fun W hW => by rw [hI] at hW; exact hW
  have HI6 : Hid (I w6) := Lib.hid (by rw [hI]; exact ⟨HS6.out, HA6.out, HX6.out, HE6.out, HU6.out, HO6.out⟩)
  have HBE : Hid (∀ W W', I W → Below W.heap.size W W' → I W') := Lib.hid fun W W' hW hb => by
    rw [hI] at hW ⊢
    obtain ⟨h1, h2, h3, h4, hsu, h5⟩ := hW
    exact ⟨h1.below hb, obj_below h2 hb, obj_below h3 hb, h4.below hb, hsu.below hb, ownsRow_below h5 hb⟩
  have HTU : Hid (∀ W W', I W → SI w1 tb W' → W.grownBy W' (some tb) → I W') := Lib.hid fun W W' hW hs hg => by
    rw [hI] at hW ⊢
    obtain ⟨h1, h2, h3, h4, hsu, h5⟩ := hW
    exact ⟨hs, obj_turn h2 hg (by omega), obj_turn h3 hg (by omega), h4.turn h1.src hg, hsu.turn h1.src hg, h5.kept hg (ownBlock_ne h5 tb (by omega))⟩
  have HDR : Hid (∀ W, I W → I W.drew) := Lib.hid fun W hW => HBE.out W _ hW (Below.refl _ _).drew
  have HAL : Hid (∀ W o, I W → I (W.alloc o)) := Lib.hid fun W o hW => HBE.out W _ hW (below_alloc _ _)
  have HTS : Hid (∀ W, I W → tb < W.heap.size) := Lib.hid fun W hW => (HIO.out W hW).1.src.lt
  have HCL : Hid (∀ W, I W → ∀ i, W.cell? ⟨bA + 1, i, none⟩ = #[.int .i64 cr, .slice (some ⟨g, 0, none⟩) 4 c5, .slice aE m cE][i]?) := Lib.hid fun W hW i => obj_cell (HIO.out W hW).2.2.1 i
  have HROW : Hid (∀ W, I W → ∀ r, r < 4 → W.cell? ⟨g, r * 2 + 1, none⟩ = some (.int .i64 (subAt a.subs r).bal)) := Lib.hid fun W hW r hr => ((HIO.out W hW).2.2.2.2.2.cellAt (r * 2 + 1) (by omega)).trans (cellsU_get a.subs r (by rw [HSL.out]; exact hr)).2
  have HRF : Hid (∀ W, I W → ∀ i, W.frozen? ⟨g, i, none⟩ = false) := Lib.hid fun W hW i => (HIO.out W hW).2.2.2.2.2.frozenAt i
  have HW : Hid (∀ (r : Nat) (x : Int), r < 4 → (x = 1 ∨ x = -1 ∨ x = 100) → IntKind.i64.wrap ((subAt a.subs r).bal + x) = (subAt a.subs r).bal + x) := Lib.hid fun r x hr hx => by
    have h := HBL.out _ (List.getElem_mem (show r < a.subs.length by rw [HSL.out]; exact hr))
    rw [← subAt_get] at h
    exact IntWalk.i64_in _ (by omega)
  have HNN : Hid (∀ W, I W → Calls Try.prog 10 #[.pointer (some ⟨tb, 0, none⟩), .int .i64 4] W fun e w' => ∃ v, e = .returned v ∧ ((∃ r : Nat, r < 4 ∧ v = .int .i64 r) ∧ I w' ∧ Keep tb W w')) := Lib.hid fun W hW =>
    (n_in (HIO.out W hW).1 4 (by omega) (by omega)).mono fun e w' ⟨r, h1, h2, h3, h4, h5⟩ => ⟨_, h1, ⟨r.toNat, by omega, by congr 1; omega⟩, HTU.out W _ hW h4 h5, keep_turn h5⟩
  have HPK : Hid (∀ (b : Nat) (W : World), I W → W.heap[b]? = some (.cells #[.int .i64 1, .int .i64 (-1), .int .i64 100] 3 (0, 0)) → tb < b → Calls Try.prog 9 #[.pointer (some ⟨tb, 0, none⟩), .slice (some ⟨b, 0, none⟩) 3 3] W fun e w' => ∃ v, e = .returned v ∧ ((∃ x : Int, (x = 1 ∨ x = -1 ∨ x = 100) ∧ v = .int .i64 x) ∧ I w' ∧ Keep tb W w')) := Lib.hid fun b W hW hbx hlt =>
    (sPick_any tb b 3 [1, -1, 100] W (HIO.out W hW).1.src hlt (obj_lt hbx) (by simp) (by simp) (fun i hi => by
      rw [obj_cell hbx]
      match i, hi with
      | 0, _ => rfl
      | 1, _ => rfl
      | 2, _ => rfl)).mono fun e w' ⟨x, h1, h2, h3, h4⟩ => ⟨_, h1, ⟨x, by simpa using h2, rfl⟩, HTU.out W _ hW ((HIO.out W hW).1.turn h3 h4) h4, keep_turn h4⟩
  have HPUT : Hid (∀ W (r : Nat) (x : Int), I W → r < 4 → (x = 1 ∨ x = -1 ∨ x = 100) → ∃ (r : Nat) (x : Int), r < 4 ∧ x ≠ 0 ∧ Hid (SI w1 tb (W.setCell ⟨g, r * 2 + 1, none⟩ (.int .i64 ((subAt a.subs r).bal + x))))) := Lib.hid fun W r x hW hr hx => ⟨r, x, hr, by omega, Lib.hid ((HIO.out W hW).1.set (by omega) _ _)⟩
  have egP := enters_of Try.func9 (by kernel_rfl) rfl
  have egN := enters_of Try.func10 (by kernel_rfl) rfl
  obtain ⟨K5, hK5⟩ : ∃ K5 : World → Prop, K5 = fun W => ∃ (r : Nat) (x : Int), r < 4 ∧ x ≠ 0 ∧ SI w1 tb W ∧ W.heap[bA]? = some (.cells #[.int .i64 cr, .slice aS 4 cS, .slice aE m cE] 28 (0, 0)) ∧ W.heap[bA + 1]? = some (.cells #[.int .i64 cr, .slice (some ⟨g, 0, none⟩) 4 c5, .slice aE m cE] 28 (0, 0)) ∧ EntsAt W (.slice aE m cE) a.ents ∧ SubsAt W (.slice aS 4 cS) a.subs ∧ SubsAt W (.slice (some ⟨g, 0, none⟩) 4 c5) (bump a.subs r x) := ⟨_, rfl⟩
  clear HPUT
  have HPUT : Hid (∀ W (r : Nat) (x : Int), I W → r < 4 → (x = 1 ∨ x = -1 ∨ x = 100) → K5 (W.setCell ⟨g, r * 2 + 1, none⟩ (.int .i64 ((subAt a.subs r).bal + x)))) := Lib.hid fun W r x hW hr hx => by
    obtain ⟨h1, h2, h3, h4, hsu, h5⟩ := HIO.out W hW
    rw [hK5]
    have hg2 : W.grownBy (W.setCell ⟨g, r * 2 + 1, none⟩ (.int .i64 ((subAt a.subs r).bal + x))) (some g) := setCell_grown _ _
    have hst := (h5.stored (r * 2 + 1) (.int .i64 ((subAt a.subs r).bal + x))).1
    rw [cellsU_set a.subs r _ (by rw [HSL.out]; exact hr)] at hst
    refine ⟨r, x, hr, by omega, h1.set (by omega) _ _, (hg2.block _ (obj_lt h2) (by simp; omega)).trans h2, (hg2.block _ (obj_lt h3) (by simp; omega)).trans h3, h4.apart hg2 (fun h0 b o hb => by have := HEB.out h0 b o hb; omega), hsu.apart hg2 (fun h0 b o hb => by have := HSB.out h0 b o hb; omega), ?_⟩
    unfold SubsAt
    rw [bump_len, HSL.out]
    exact RowG.owns hst
  go_cut [] (fun wx => Hid (K5 wx))
  case first =>
    refine wp_region_last [16, 17, 18, 19, 20, 21, 22, 23, 24, 25, 26, 27, 28, 29, 30, 31] slot5 reads5 (R5 tb (bA + 1) g c5 a.subs) I (fun _ W => K5 W) 16 6 rfl (by kernel_rfl) (by kernel_rfl) (by kernel_rfl) (by kernel_rfl) (HDR.out _ HI6.out) (fun j f q v W hq h => R5.upd hq h) ?_ ?_ ?_
    case refine_1 =>
      intro i hi f W hIW hdep
      generalize ha1 : putsL _ [16, 17, 18, 19, 20, 21, 22, 23, 24, 25, 26, 27, 28, 29, 30, 31] f = a1
      match i, hi, hdep with
      | 0, _, hdep =>
        have E5 : a1.tmps[5]?.getD undef = .pointer (some ⟨bA + 1, 0, none⟩) := by rw [← ha1]; exact (putsL_out2 _ _ _ _ (by decide)).trans rfl
        exact wpOp_val rfl rfl (v := .pointer (some ⟨bA + 1, 1, none⟩)) (w' := W) (by simp [execOp, go_sem, E5]) ⟨hIW, fun _ h => h, _, by decide, rfl, updF_same _ _ _⟩
      | 1, _, hdep =>
        have e16 : f 16 = .pointer (some ⟨bA + 1, 1, none⟩) := hdep 0 (by decide) (by kernel_rfl)
        have E16 : a1.tmps[16]?.getD undef = f 16 := by rw [← ha1]; exact putsL_in2 _ _ _ _ (by decide) (show 16 < 69 from by decide)
        rw [e16] at E16
        have v1 := HCL.out W hIW 1
        simp at v1
        exact wpOp_val rfl rfl (v := .slice (some ⟨g, 0, none⟩) 4 c5) (w' := W) (by simp [execOp, go_sem, E16, v1]) ⟨hIW, fun _ h => h, _, by decide, rfl, updF_same _ _ _⟩
      | 2, _, hdep =>
        have E3 : a1.tmps[3]?.getD undef = .pointer (some ⟨tb, 0, none⟩) := by rw [← ha1]; exact (putsL_out2 _ _ _ _ (by decide)).trans rfl
        exact wpOp_val rfl rfl (v := .pointer (some ⟨tb, 0, none⟩)) (w' := W) (by simp [execOp, go_sem, E3]) ⟨hIW, fun _ h => h, _, by decide, rfl, updF_same _ _ _⟩
      | 3, _, hdep =>
        have E5 : a1.tmps[5]?.getD undef = .pointer (some ⟨bA + 1, 0, none⟩) := by rw [← ha1]; exact (putsL_out2 _ _ _ _ (by decide)).trans rfl
        exact wpOp_val rfl rfl (v := .pointer (some ⟨bA + 1, 1, none⟩)) (w' := W) (by simp [execOp, go_sem, E5]) ⟨hIW, fun _ h => h, _, by decide, rfl, updF_same _ _ _⟩
      | 4, _, hdep =>
        have e19 : f 19 = .pointer (some ⟨bA + 1, 1, none⟩) := hdep 3 (by decide) (by kernel_rfl)
        have E19 : a1.tmps[19]?.getD undef = f 19 := by rw [← ha1]; exact putsL_in2 _ _ _ _ (by decide) (show 19 < 69 from by decide)
        rw [e19] at E19
        have v1 := HCL.out W hIW 1
        simp at v1
        exact wpOp_val rfl rfl (v := .slice (some ⟨g, 0, none⟩) 4 c5) (w' := W) (by simp [execOp, go_sem, E19, v1]) ⟨hIW, fun _ h => h, _, by decide, rfl, updF_same _ _ _⟩
      | 5, _, hdep =>
        have e20 : f 20 = .slice (some ⟨g, 0, none⟩) 4 c5 := hdep 4 (by decide) (by kernel_rfl)
        have E20 : a1.tmps[20]?.getD undef = f 20 := by rw [← ha1]; exact putsL_in2 _ _ _ _ (by decide) (show 20 < 69 from by decide)
        rw [e20] at E20
        exact wpOp_val rfl rfl (v := .int .i64 4) (w' := W) (by simp [execOp, go_sem, E20]) ⟨hIW, fun _ h => h, _, by decide, rfl, updF_same _ _ _⟩
      | 6, _, hdep =>
        have e18 : f 18 = .pointer (some ⟨tb, 0, none⟩) := hdep 2 (by decide) (by kernel_rfl)
        have e21 : f 21 = .int .i64 4 := hdep 5 (by decide) (by kernel_rfl)
        have E18 : a1.tmps[18]?.getD undef = f 18 := by rw [← ha1]; exact putsL_in2 _ _ _ _ (by decide) (show 18 < 69 from by decide)
        have E21 : a1.tmps[21]?.getD undef = f 21 := by rw [← ha1]; exact putsL_in2 _ _ _ _ (by decide) (show 21 < 69 from by decide)
        rw [e18] at E18
        rw [e21] at E21
        refine wpOp_call rfl rfl (n := 10) (vs := #[.pointer (some ⟨tb, 0, none⟩), .int .i64 4]) (by have := egN #[.pointer (some ⟨tb, 0, none⟩), .int .i64 4] W; simp [execOp, E18, E21, resolve, invoke, go_sem] <;> exact this) (HNN.out W hIW) ?_
        rintro v w' ⟨⟨r, hr, rfl⟩, hI', hk'⟩
        exact ⟨hI', fun j h => R5.keep hk' h, _, by decide, rfl, ⟨r, hr, updF_same _ _ _⟩⟩
      | 7, _, hdep =>
        have e17 : f 17 = .slice (some ⟨g, 0, none⟩) 4 c5 := hdep 1 (by decide) (by kernel_rfl)
        obtain ⟨r, hr, e22⟩ := hdep 6 (by decide) (by kernel_rfl)
        have E17 : a1.tmps[17]?.getD undef = f 17 := by rw [← ha1]; exact putsL_in2 _ _ _ _ (by decide) (show 17 < 69 from by decide)
        have E22 : a1.tmps[22]?.getD undef = f 22 := by rw [← ha1]; exact putsL_in2 _ _ _ _ (by decide) (show 22 < 69 from by decide)
        rw [e17] at E17
        rw [e22] at E22
        have hr0 : (0 : Int) ≤ (r : Int) := by omega
        have hr1 : (r : Int) < 4 := by omega
        exact wpOp_val rfl rfl (v := .pointer (some ⟨g, r * 2, none⟩)) (w' := W) (by simp [execOp, go_sem, E17, E22, hr0, hr1]) ⟨hIW, fun _ h => h, _, by decide, rfl, ⟨r, hr, (updF_other f _ (by decide)).trans e22, updF_same _ _ _⟩⟩
      | 8, _, hdep =>
        obtain ⟨r, hr, e22, e23⟩ := hdep 7 (by decide) (by kernel_rfl)
        have E23 : a1.tmps[23]?.getD undef = f 23 := by rw [← ha1]; exact putsL_in2 _ _ _ _ (by decide) (show 23 < 69 from by decide)
        rw [e23] at E23
        exact wpOp_val rfl rfl (v := .pointer (some ⟨g, r * 2 + 1, none⟩)) (w' := W) (by simp [execOp, go_sem, E23]) ⟨hIW, fun _ h => h, _, by decide, rfl, ⟨r, hr, (updF_other f _ (by decide)).trans e22, updF_same _ _ _⟩⟩
      | 9, _, hdep =>
        obtain ⟨r, hr, e22, e24⟩ := hdep 8 (by decide) (by kernel_rfl)
        have E24 : a1.tmps[24]?.getD undef = f 24 := by rw [← ha1]; exact putsL_in2 _ _ _ _ (by decide) (show 24 < 69 from by decide)
        rw [e24] at E24
        have v1 := HROW.out W hIW r hr
        exact wpOp_val rfl rfl (v := .int .i64 (subAt a.subs r).bal) (w' := W) (by simp [execOp, go_sem, E24, v1]) ⟨hIW, fun _ h => h, _, by decide, rfl, ⟨r, hr, (updF_other f _ (by decide)).trans e22, updF_same _ _ _⟩⟩
      | 10, _, hdep =>
        have E3 : a1.tmps[3]?.getD undef = .pointer (some ⟨tb, 0, none⟩) := by rw [← ha1]; exact (putsL_out2 _ _ _ _ (by decide)).trans rfl
        exact wpOp_val rfl rfl (v := .pointer (some ⟨tb, 0, none⟩)) (w' := W) (by simp [execOp, go_sem, E3]) ⟨hIW, fun _ h => h, _, by decide, rfl, updF_same _ _ _⟩
      | 11, _, hdep =>
        exact wpOp_val rfl rfl (v := .slice (some ⟨W.heap.size, 0, none⟩) 3 3) (w' := W.alloc (.cells #[.int .i64 1, .int .i64 (-1), .int .i64 100] 3)) (by simp [execOp, go_sem]) ⟨HAL.out _ _ hIW, fun j h => R5.keep (keep_below (below_alloc _ _)) h, _, by decide, rfl, ⟨_, updF_same _ _ _, by have := HTS.out _ hIW; omega, heap_alloc_new _ _⟩⟩
      | 12, _, hdep =>
        have e26 : f 26 = .pointer (some ⟨tb, 0, none⟩) := hdep 10 (by decide) (by kernel_rfl)
        obtain ⟨b, h2, h3, h4⟩ := hdep 11 (by decide) (by kernel_rfl)
        have E26 : a1.tmps[26]?.getD undef = f 26 := by rw [← ha1]; exact putsL_in2 _ _ _ _ (by decide) (show 26 < 69 from by decide)
        have E27 : a1.tmps[27]?.getD undef = f 27 := by rw [← ha1]; exact putsL_in2 _ _ _ _ (by decide) (show 27 < 69 from by decide)
        rw [e26] at E26
        rw [h2] at E27
        refine wpOp_call rfl rfl (n := 9) (vs := #[.pointer (some ⟨tb, 0, none⟩), .slice (some ⟨b, 0, none⟩) 3 3]) (by have := egP #[.pointer (some ⟨tb, 0, none⟩), .slice (some ⟨b, 0, none⟩) 3 3] W; simp [execOp, E26, E27, resolve, invoke, go_sem] <;> exact this) (HPK.out b W hIW h4 h3) ?_
        rintro v w' ⟨⟨x, hx, rfl⟩, hI', hk'⟩
        exact ⟨hI', fun j h => R5.keep hk' h, _, by decide, rfl, ⟨x, hx, updF_same _ _ _⟩⟩
      | 13, _, hdep =>
        obtain ⟨r, hr, e22, e25⟩ := hdep 9 (by decide) (by kernel_rfl)
        obtain ⟨x, hx, e28⟩ := hdep 12 (by decide) (by kernel_rfl)
        have E25 : a1.tmps[25]?.getD undef = f 25 := by rw [← ha1]; exact putsL_in2 _ _ _ _ (by decide) (show 25 < 69 from by decide)
        have E28 : a1.tmps[28]?.getD undef = f 28 := by rw [← ha1]; exact putsL_in2 _ _ _ _ (by decide) (show 28 < 69 from by decide)
        rw [e25] at E25
        rw [e28] at E28
        have hw := HW.out r x hr hx
        exact wpOp_val rfl rfl (v := .int .i64 ((subAt a.subs r).bal + x)) (w' := W) (by simp [execOp, go_sem, E25, E28, hw]) ⟨hIW, fun _ h => h, _, by decide, rfl, ⟨r, x, hr, hx, (updF_other f _ (by decide)).trans e22, updF_same _ _ _⟩⟩
      | 14, _, hdep =>
        have e17 : f 17 = .slice (some ⟨g, 0, none⟩) 4 c5 := hdep 1 (by decide) (by kernel_rfl)
        obtain ⟨r, hr, e22⟩ := hdep 6 (by decide) (by kernel_rfl)
        have E17 : a1.tmps[17]?.getD undef = f 17 := by rw [← ha1]; exact putsL_in2 _ _ _ _ (by decide) (show 17 < 69 from by decide)
        have E22 : a1.tmps[22]?.getD undef = f 22 := by rw [← ha1]; exact putsL_in2 _ _ _ _ (by decide) (show 22 < 69 from by decide)
        rw [e17] at E17
        rw [e22] at E22
        have hr0 : (0 : Int) ≤ (r : Int) := by omega
        have hr1 : (r : Int) < 4 := by omega
        exact wpOp_val rfl rfl (v := .pointer (some ⟨g, r * 2, none⟩)) (w' := W) (by simp [execOp, go_sem, E17, E22, hr0, hr1]) ⟨hIW, fun _ h => h, _, by decide, rfl, ⟨r, hr, (updF_other f _ (by decide)).trans e22, updF_same _ _ _⟩⟩
      | 15, _, hdep =>
        obtain ⟨r, hr, e22, e30⟩ := hdep 14 (by decide) (by kernel_rfl)
        have E30 : a1.tmps[30]?.getD undef = f 30 := by rw [← ha1]; exact putsL_in2 _ _ _ _ (by decide) (show 30 < 69 from by decide)
        rw [e30] at E30
        exact wpOp_val rfl rfl (v := .pointer (some ⟨g, r * 2 + 1, none⟩)) (w' := W) (by simp [execOp, go_sem, E30]) ⟨hIW, fun _ h => h, _, by decide, rfl, ⟨r, hr, (updF_other f _ (by decide)).trans e22, updF_same _ _ _⟩⟩
      | i + 16, h, _ => exact absurd h (by omega)
    case refine_2 =>
      intro f W hIW hR
      have h13 := hR 13 (by decide)
      have h15 := hR 15 (by decide)
      obtain ⟨r, x, hr, hx, e22, e29⟩ := h13
      obtain ⟨r', hr', e22', e31⟩ := h15
      have hrr : r' = r := by rw [e22] at e22'; injection e22' with _ h; omega
      subst hrr
      generalize ha1 : putsL _ [16, 17, 18, 19, 20, 21, 22, 23, 24, 25, 26, 27, 28, 29, 30, 31] f = a1
      have E29 : a1.tmps[29]?.getD undef = f 29 := by rw [← ha1]; exact putsL_in2 _ _ _ _ (by decide) (show 29 < 69 from by decide)
      have E31 : a1.tmps[31]?.getD undef = f 31 := by rw [← ha1]; exact putsL_in2 _ _ _ _ (by decide) (show 31 < 69 from by decide)
      rw [e29] at E29
      rw [e31] at E31
      have v1 := HROW.out W hIW r' hr'
      have g1 := HRF.out W hIW (r' * 2 + 1)
      exact wpOp_skip rfl rfl (w' := W.setCell ⟨g, r' * 2 + 1, none⟩ (.int .i64 ((subAt a.subs r').bal + x))) (by simp [execOp, E29, E31, go_sem, v1, g1]) ⟨rfl, HPUT.out W r' x hIW hr' hx⟩
    case refine_3 =>
      intro f W hK
      simp only [putsL, List.foldl_cons, List.foldl_nil, Act.put, List.setIfInBounds_toArray, List.set_cons_zero, List.set_cons_succ]
      go_wp2
      go_meet
      exact Lib.hid hK
  case rest =>
  have hk := hcut.out
  rw [hK5] at hk
  obtain ⟨r, x, hr, hx, hs1, ha, hb, he, hsu, hrow⟩ := hk
  have HC1 : Hid (Calls Try.prog 15 #[.agg #[.int .i64 cr, .slice (some ⟨g, 0, none⟩) 4 c5, .slice aE m cE]] wc fun e w' => e = .returned (.int .i64 62) ∧ Below wc.heap.size wc w') := Lib.hid (by
    have h := acCheck_any { a with subs := bump a.subs r x } (.slice (some ⟨g, 0, none⟩) 4 c5) (.slice aE m cE) wc hrow he (by simp only [bump_len, HSL.out]; omega) (by simp only; rw [← HML.out]; omega)
    rw [bent_balance HOK.out r (by rw [HSL.out]; exact hr) x hx] at h
    have h' : Calls Try.prog 15 #[.agg #[.int .i64 a.credit, .slice (some ⟨g, 0, none⟩) 4 c5, .slice aE m cE]] wc fun e w' => e = .returned (.int .i64 62) ∧ Below wc.heap.size wc w' := h
    rw [← HCR.out] at h'
    exact h')
  have u0 := obj_cell hb 0
  have u1 := obj_cell hb 1
  have u2 := obj_cell hb 2
  simp at u0 u1 u2
  have HS7 := Lib.hid hs1
  have HA7 := Lib.hid ha
  have HE7 := Lib.hid he
  have HU7 := Lib.hid hsu
  have HFIN : Hid (∀ W, SI w1 tb W → Below w.heap.size w W) := Lib.hid fun W hW => HW1.out.grown hW.old HW1.out.size (fun q e => by injection e with e; rw [← e, ← HTB.out]; exact Nat.le_refl _)
  clear hs1 ha hb he hsu hrow hr hx HNN HPK HPUT hK5 HIO HI6 HBE HTU HDR HAL HTS HCL HROW HRF HW HS6 HX6 HE6 HU6 HA6 HO6 hcut
  go_wp2_with fail
  refine (HC1.out).mono ?_
  rintro e w7 ⟨rfl, hb7⟩
  have HS8 := Lib.hid (HS7.out.below hb7)
  have HA8 := Lib.hid (obj_below HA7.out hb7)
  have HE8 := Lib.hid (HE7.out.below hb7)
  have HU8 := Lib.hid (HU7.out.below hb7)
  have v0 := obj_cell HA8.out 0
  have v1 := obj_cell HA8.out 1
  have v2 := obj_cell HA8.out 2
  simp at v0 v1 v2
  have hsz7 : w4.heap.size ≤ w7.heap.size ∨ True := Or.inr trivial
  clear hb7 HC1 u0 u1 u2 HS7 HA7 HE7 HU7 hsz7
  by_cases hm0 : m = 0
  · subst hm0
    go_wp2_with fail
    refine (HSN.out _).mono ?_
    rintro e w8 ⟨rfl, hb8⟩
    have HB8 := Lib.hid ((HFIN.out _ HS8.out).trans (hb8.mono (HFIN.out _ HS8.out).size))
    clear hb8
    go_wp2
    go_ret
    exact ⟨rfl, HB8.out⟩
  have hm1 : ((m : Int) == 0) = false := by rw [beq_eq_false_iff_ne]; omega
  obtain ⟨k0, hkk, hy0, hy1, hy2⟩ := infoE_parts
  have HS9 : Hid (SI w1 tb (w7.alloc (.cells #[.int .i64 cr, .slice aS 4 cS, .slice aE m cE] 28))) := Lib.hid (HS8.out.alloc _)
  have HA9 : Hid ((w7.alloc (.cells #[.int .i64 cr, .slice aS 4 cS, .slice aE m cE] 28)).heap[bA]? = some (.cells #[.int .i64 cr, .slice aS 4 cS, .slice aE m cE] 28 (0, 0))) := Lib.hid (obj_below HA8.out (below_alloc _ _))
  have HE9 : Hid (EntsAt (w7.alloc (.cells #[.int .i64 cr, .slice aS 4 cS, .slice aE m cE] 28)) (.slice aE m cE) a.ents) := Lib.hid (HE8.out.below (below_alloc _ _))
  have HU9 : Hid (SubsAt (w7.alloc (.cells #[.int .i64 cr, .slice aS 4 cS, .slice aE m cE] 28)) (.slice aS 4 cS) a.subs) := Lib.hid (HU8.out.below (below_alloc _ _))
  have HX9 : Hid ((w7.alloc (.cells #[.int .i64 cr, .slice aS 4 cS, .slice aE m cE] 28)).heap[w7.heap.size]? = some (.cells #[.int .i64 cr, .slice aS 4 cS, .slice aE m cE] 28 (0, 0))) := Lib.hid (heap_alloc_new _ _)
  have hw17 : w1.heap.size ≤ w7.heap.size := HS8.out.old.size
  have hAlt : bA < w7.heap.size := obj_lt HA8.out
  go_upto_region 11 with fail
  generalize w7.heap.size = bC at *
  generalize w7.alloc (.cells #[.int .i64 cr, .slice aS 4 cS, .slice aE m cE] 28) = w9 at *
  clear v0 v1 v2 HS8 HA8 HE8 HU8
  have hCl : bC < w9.heap.size := obj_lt HX9.out
  have HNE9 : Hid (m = 0 ∨ ∃ ad : Addr, aE = some ad ∧ ∀ j u, (cellsN a.ents)[j]? = some u → w9.cell? (ad.add j) = some u) := Lib.hid (by rw [cellsN_L]; exact newsOf entF (ents_list.1 HE9.out))
  have HLE9 : Hid ((cellsN a.ents).length = m * 6) := Lib.hid (by rw [cellsN_len, HML.out])
  have HSB9 : Hid (0 < a.subs.length → ∀ b o, aS = some ⟨b, o, none⟩ → b < w9.heap.size) := Lib.hid HU9.out.where_
  have v2 := obj_cell HA9.out 2
  simp at v2
  go_wp2_with (at_builtin; refine wpList_ownO _ rfl _ _ 26 rfl w9.heap.size 35 k0 (.agg #[.int .i64 0, .int .i64 0, .int .i64 0, .int .i64 0, .int .i64 0, .int .i64 0]) 6 48 Try.underlying26 hkk hy0 hy1 hy2 rfl (by decide) (.slice none 0 0) 0 [] rfl (World.ownsRow_nil _ _ _ _) aE m cE (cellsN a.ents) rfl HLE9.out HNE9.out (cellsN_one _) (by unfold maxLen; omega) (by omega) (Nat.le_refl _) ?_; intro v5 w10 hown10 hgr10; (rw [Nat.zero_add, List.nil_append] at hown10); (obtain ⟨h, c6, rfl, hh5, hc6⟩ := owns_shape hown10 (by omega)); (have hb10 : w10.heap[bC]? = some (.cells #[.int .i64 cr, .slice aS 4 cS, .slice aE m cE] 28 (0, 0)) := (hgr10.block _ hCl (by simp [Value.ownBlock])).trans HX9.out); (have q2 := obj_cell hb10 2); (have f2 := obj_free hb10 2); (simp at q2))
  have HX11 : Hid ((w10.setCell ⟨bC, 2, none⟩ (.slice (some ⟨h, 0, none⟩) m c6)).heap[bC]? = some (.cells #[.int .i64 cr, .slice aS 4 cS, .slice (some ⟨h, 0, none⟩) m c6] 28 (0, 0))) := Lib.hid (by
    have := obj_set hb10 2 (.slice (some ⟨h, 0, none⟩) m c6)
    simpa using this)
  have hb910 := below_grownBy (show w9.grownBy w10 none from hgr10)
  have HO11 : Hid ((w10.setCell ⟨bC, 2, none⟩ (.slice (some ⟨h, 0, none⟩) m c6)).ownsRow w9.heap.size 35 6 (.slice (some ⟨h, 0, none⟩) m c6) m (cellsN a.ents)) := Lib.hid (hown10.kept (setCell_grown 2 _) (ownBlock_ne hown10 bC hCl))
  have HS11 : Hid (SI w1 tb (w10.setCell ⟨bC, 2, none⟩ (.slice (some ⟨h, 0, none⟩) m c6))) := Lib.hid ((HS9.out.below hb910).set hw17 2 _)
  have HU11 : Hid (SubsAt (w10.setCell ⟨bC, 2, none⟩ (.slice (some ⟨h, 0, none⟩) m c6)) (.slice aS 4 cS) a.subs) := Lib.hid ((HU9.out.below hb910).keep (lone_acc hb10) (setCell_grown 2 _))
  have hCh : bC < h := Nat.lt_of_lt_of_le hCl hh5
  have hth : tb < bC := by omega
  clear hb10 hb910 hown10 hgr10 q2 f2 HS9 HU9 HE9 HA9 HX9 HNE9 HLE9 v2
  go_upto_region 12 with fail
  generalize w10.setCell ⟨bC, 2, none⟩ (.slice (some ⟨h, 0, none⟩) m c6) = w11 at *
  obtain ⟨I2, hI2⟩ : ∃ I2, I2 = fun W : World => SI w1 tb W ∧ W.heap[bC]? = some (.cells #[.int .i64 cr, .slice aS 4 cS, .slice (some ⟨h, 0, none⟩) m c6] 28 (0, 0)) ∧ SubsAt W (.slice aS 4 cS) a.subs ∧ W.ownsRow w9.heap.size 35 6 (.slice (some ⟨h, 0, none⟩) m c6) m (cellsN a.ents) := ⟨_, rfl⟩
  have HIO2 : Hid (∀ W, I2 W → SI w1 tb W ∧ W.heap[bC]? = some (.cells #[.int .i64 cr, .slice aS 4 cS, .slice (some ⟨h, 0, none⟩) m c6] 28 (0, 0)) ∧ SubsAt W (.slice aS 4 cS) a.subs ∧ W.ownsRow w9.heap.size 35 6 (.slice (some ⟨h, 0, none⟩) m c6) m (cellsN a.ents)) := Lib.hid fun W hW => by rw [hI2] at hW; exact hW
  have HI11 : Hid (I2 w11) := Lib.hid (by rw [hI2]; exact ⟨HS11.out, HX11.out, HU11.out, HO11.out⟩)
  have HBE2 : Hid (∀ W W', I2 W → Below W.heap.size W W' → I2 W') := Lib.hid fun W W' hW hb => by
    rw [hI2] at hW ⊢
    obtain ⟨h1, h2, h3, h4⟩ := hW
    exact ⟨h1.below hb, obj_below h2 hb, h3.below hb, ownsRow_below h4 hb⟩
  have HTU2 : Hid (∀ W W', I2 W → SI w1 tb W' → W.grownBy W' (some tb) → I2 W') := Lib.hid fun W W' hW hs hg => by
    rw [hI2] at hW ⊢
    obtain ⟨h1, h2, h3, h4⟩ := hW
    exact ⟨hs, obj_turn h2 hg (by omega), h3.turn h1.src hg, h4.kept hg (ownBlock_ne h4 tb (by omega))⟩
  have HCL2 : Hid (∀ W, I2 W → ∀ i, W.cell? ⟨bC, i, none⟩ = #[.int .i64 cr, .slice aS 4 cS, .slice (some ⟨h, 0, none⟩) m c6][i]?) := Lib.hid fun W hW i => obj_cell (HIO2.out W hW).2.1 i
  have HROW2 : Hid (∀ W, I2 W → ∀ r, r < m → W.cell? ⟨h, r * 6 + 4, none⟩ = some (.int .i64 (entAt a.ents r).amount)) := Lib.hid fun W hW r hr => ((HIO2.out W hW).2.2.2.cellAt (r * 6 + 4) (by omega)).trans (cellsN_get a.ents r 4 (by rw [← HML.out]; exact hr) (by omega))
  have HRF2 : Hid (∀ W, I2 W → ∀ i, W.frozen? ⟨h, i, none⟩ = false) := Lib.hid fun W hW i => (HIO2.out W hW).2.2.2.frozenAt i
  have HW2 : Hid (∀ r : Nat, r < m → IntKind.i64.wrap ((entAt a.ents r).amount + 1) = (entAt a.ents r).amount + 1) := Lib.hid fun r hr => by
    have h := HAM.out _ (List.getElem_mem (show r < a.ents.length by rw [← HML.out]; exact hr))
    rw [← entAt_get] at h
    exact IntWalk.i64_in _ (by omega)
  have HNM : Hid (∀ W, I2 W → Calls Try.prog 10 #[.pointer (some ⟨tb, 0, none⟩), .int .i64 (m : Int)] W fun e w' => ∃ v, e = .returned v ∧ ((∃ r : Nat, r < m ∧ v = .int .i64 r) ∧ I2 w')) := Lib.hid fun W hW =>
    (n_in (HIO2.out W hW).1 (m : Int) (by omega) (by omega)).mono fun e w' ⟨r, h1, h2, h3, h4, h5⟩ => ⟨_, h1, ⟨r.toNat, by omega, by congr 1; omega⟩, HTU2.out W _ hW h4 h5⟩
  obtain ⟨K12, hK12⟩ : ∃ K12 : World → Prop, K12 = fun W => ∃ r : Nat, r < m ∧ SI w1 tb W ∧ W.heap[bC]? = some (.cells #[.int .i64 cr, .slice aS 4 cS, .slice (some ⟨h, 0, none⟩) m c6] 28 (0, 0)) ∧ SubsAt W (.slice aS 4 cS) a.subs ∧ EntsAt W (.slice (some ⟨h, 0, none⟩) m c6) (a.ents.set r { entAt a.ents r with amount := (entAt a.ents r).amount + 1 }) := ⟨_, rfl⟩
  have HPUT2 : Hid (∀ W (r : Nat), I2 W → r < m → K12 (W.setCell ⟨h, r * 6 + 4, none⟩ (.int .i64 ((entAt a.ents r).amount + 1)))) := Lib.hid fun W r hW hr => by
    obtain ⟨h1, h2, h3, h4⟩ := HIO2.out W hW
    rw [hK12]
    have hg2 : W.grownBy (W.setCell ⟨h, r * 6 + 4, none⟩ (.int .i64 ((entAt a.ents r).amount + 1))) (some h) := setCell_grown _ _
    have hst := (h4.stored (r * 6 + 4) (.int .i64 ((entAt a.ents r).amount + 1))).1
    rw [cellsN_set a.ents r _ (by rw [← HML.out]; exact hr)] at hst
    refine ⟨r, hr, h1.set (by omega) _ _, (hg2.block _ (obj_lt h2) (by simp; omega)).trans h2, h3.apart hg2 (fun h0 b o hb => by have := HSB9.out h0 b o hb; omega), ?_⟩
    unfold EntsAt
    rw [List.length_set, ← HML.out]
    exact RowG.owns hst
  have egM := egN
  go_cut [] (fun wx => Hid (K12 wx))
  case first =>
    refine wp_region_last [45, 46, 47, 48, 49, 50, 51, 52, 53, 54, 55, 56, 57] slot12 reads12 (R12 tb bC h m c6 a.ents) I2 (fun _ W => K12 W) 13 6 rfl (by kernel_rfl) (by kernel_rfl) (by kernel_rfl) (by kernel_rfl) (HBE2.out _ _ HI11.out (Below.refl _ _).drew) (fun j f q v W hq h => R12.upd hq h) ?_ ?_ ?_
    case refine_1 =>
      intro i hi f W hIW hdep
      generalize ha1 : putsL _ [45, 46, 47, 48, 49, 50, 51, 52, 53, 54, 55, 56, 57] f = a1
      match i, hi, hdep with
      | 0, _, hdep =>
        have E6 : a1.tmps[6]?.getD undef = .pointer (some ⟨bC, 0, none⟩) := by rw [← ha1]; exact (putsL_out2 _ _ _ _ (by decide)).trans rfl
        exact wpOp_val rfl rfl (v := .pointer (some ⟨bC, 2, none⟩)) (w' := W) (by simp [execOp, go_sem, E6]) ⟨hIW, fun _ h => h, _, by decide, rfl, updF_same _ _ _⟩
      | 1, _, hdep =>
        have e45 : f 45 = .pointer (some ⟨bC, 2, none⟩) := hdep 0 (by decide) (by kernel_rfl)
        have E45 : a1.tmps[45]?.getD undef = f 45 := by rw [← ha1]; exact putsL_in2 _ _ _ _ (by decide) (show 45 < 69 from by decide)
        rw [e45] at E45
        have v1 := HCL2.out W hIW 2
        simp at v1
        exact wpOp_val rfl rfl (v := .slice (some ⟨h, 0, none⟩) m c6) (w' := W) (by simp [execOp, go_sem, E45, v1]) ⟨hIW, fun _ h => h, _, by decide, rfl, updF_same _ _ _⟩
      | 2, _, hdep =>
        have E3 : a1.tmps[3]?.getD undef = .pointer (some ⟨tb, 0, none⟩) := by rw [← ha1]; exact (putsL_out2 _ _ _ _ (by decide)).trans rfl
        exact wpOp_val rfl rfl (v := .pointer (some ⟨tb, 0, none⟩)) (w' := W) (by simp [execOp, go_sem, E3]) ⟨hIW, fun _ h => h, _, by decide, rfl, updF_same _ _ _⟩
      | 3, _, hdep =>
        have E6 : a1.tmps[6]?.getD undef = .pointer (some ⟨bC, 0, none⟩) := by rw [← ha1]; exact (putsL_out2 _ _ _ _ (by decide)).trans rfl
        exact wpOp_val rfl rfl (v := .pointer (some ⟨bC, 2, none⟩)) (w' := W) (by simp [execOp, go_sem, E6]) ⟨hIW, fun _ h => h, _, by decide, rfl, updF_same _ _ _⟩
      | 4, _, hdep =>
        have e48 : f 48 = .pointer (some ⟨bC, 2, none⟩) := hdep 3 (by decide) (by kernel_rfl)
        have E48 : a1.tmps[48]?.getD undef = f 48 := by rw [← ha1]; exact putsL_in2 _ _ _ _ (by decide) (show 48 < 69 from by decide)
        rw [e48] at E48
        have v1 := HCL2.out W hIW 2
        simp at v1
        exact wpOp_val rfl rfl (v := .slice (some ⟨h, 0, none⟩) m c6) (w' := W) (by simp [execOp, go_sem, E48, v1]) ⟨hIW, fun _ h => h, _, by decide, rfl, updF_same _ _ _⟩
      | 5, _, hdep =>
        have e49 : f 49 = .slice (some ⟨h, 0, none⟩) m c6 := hdep 4 (by decide) (by kernel_rfl)
        have E49 : a1.tmps[49]?.getD undef = f 49 := by rw [← ha1]; exact putsL_in2 _ _ _ _ (by decide) (show 49 < 69 from by decide)
        rw [e49] at E49
        exact wpOp_val rfl rfl (v := .int .i64 (m : Int)) (w' := W) (by simp [execOp, go_sem, E49]) ⟨hIW, fun _ h => h, _, by decide, rfl, updF_same _ _ _⟩
      | 6, _, hdep =>
        have e47 : f 47 = .pointer (some ⟨tb, 0, none⟩) := hdep 2 (by decide) (by kernel_rfl)
        have e50 : f 50 = .int .i64 (m : Int) := hdep 5 (by decide) (by kernel_rfl)
        have E47 : a1.tmps[47]?.getD undef = f 47 := by rw [← ha1]; exact putsL_in2 _ _ _ _ (by decide) (show 47 < 69 from by decide)
        have E50 : a1.tmps[50]?.getD undef = f 50 := by rw [← ha1]; exact putsL_in2 _ _ _ _ (by decide) (show 50 < 69 from by decide)
        rw [e47] at E47
        rw [e50] at E50
        refine wpOp_call rfl rfl (n := 10) (vs := #[.pointer (some ⟨tb, 0, none⟩), .int .i64 (m : Int)]) (by have := egN #[.pointer (some ⟨tb, 0, none⟩), .int .i64 (m : Int)] W; simp [execOp, E47, E50, resolve, invoke, go_sem] <;> exact this) (HNM.out W hIW) ?_
        rintro v w' ⟨⟨r, hr, rfl⟩, hI'⟩
        exact ⟨hI', fun j h => h, _, by decide, rfl, ⟨r, hr, updF_same _ _ _⟩⟩
      | 7, _, hdep =>
        have e46 : f 46 = .slice (some ⟨h, 0, none⟩) m c6 := hdep 1 (by decide) (by kernel_rfl)
        obtain ⟨r, hr, e51⟩ := hdep 6 (by decide) (by kernel_rfl)
        have E46 : a1.tmps[46]?.getD undef = f 46 := by rw [← ha1]; exact putsL_in2 _ _ _ _ (by decide) (show 46 < 69 from by decide)
        have E51 : a1.tmps[51]?.getD undef = f 51 := by rw [← ha1]; exact putsL_in2 _ _ _ _ (by decide) (show 51 < 69 from by decide)
        rw [e46] at E46
        rw [e51] at E51
        have hr0 : (0 : Int) ≤ (r : Int) := by omega
        have hr1 : (r : Int) < (m : Int) := by omega
        exact wpOp_val rfl rfl (v := .pointer (some ⟨h, r * 6, none⟩)) (w' := W) (by simp [execOp, go_sem, E46, E51, hr0, hr1, hr]) ⟨hIW, fun _ h => h, _, by decide, rfl, ⟨r, hr, (updF_other f _ (by decide)).trans e51, updF_same _ _ _⟩⟩
      | 8, _, hdep =>
        obtain ⟨r, hr, e51, e52⟩ := hdep 7 (by decide) (by kernel_rfl)
        have E52 : a1.tmps[52]?.getD undef = f 52 := by rw [← ha1]; exact putsL_in2 _ _ _ _ (by decide) (show 52 < 69 from by decide)
        rw [e52] at E52
        exact wpOp_val rfl rfl (v := .pointer (some ⟨h, r * 6 + 4, none⟩)) (w' := W) (by simp [execOp, go_sem, E52]) ⟨hIW, fun _ h => h, _, by decide, rfl, ⟨r, hr, (updF_other f _ (by decide)).trans e51, updF_same _ _ _⟩⟩
      | 9, _, hdep =>
        obtain ⟨r, hr, e51, e53⟩ := hdep 8 (by decide) (by kernel_rfl)
        have E53 : a1.tmps[53]?.getD undef = f 53 := by rw [← ha1]; exact putsL_in2 _ _ _ _ (by decide) (show 53 < 69 from by decide)
        rw [e53] at E53
        have v1 := HROW2.out W hIW r hr
        exact wpOp_val rfl rfl (v := .int .i64 (entAt a.ents r).amount) (w' := W) (by simp [execOp, go_sem, E53, v1]) ⟨hIW, fun _ h => h, _, by decide, rfl, ⟨r, hr, (updF_other f _ (by decide)).trans e51, updF_same _ _ _⟩⟩
      | 10, _, hdep =>
        obtain ⟨r, hr, e51, e54⟩ := hdep 9 (by decide) (by kernel_rfl)
        have E54 : a1.tmps[54]?.getD undef = f 54 := by rw [← ha1]; exact putsL_in2 _ _ _ _ (by decide) (show 54 < 69 from by decide)
        rw [e54] at E54
        have hw := HW2.out r hr
        exact wpOp_val rfl rfl (v := .int .i64 ((entAt a.ents r).amount + 1)) (w' := W) (by simp [execOp, go_sem, E54, hw]) ⟨hIW, fun _ h => h, _, by decide, rfl, ⟨r, hr, (updF_other f _ (by decide)).trans e51, updF_same _ _ _⟩⟩
      | 11, _, hdep =>
        have e46 : f 46 = .slice (some ⟨h, 0, none⟩) m c6 := hdep 1 (by decide) (by kernel_rfl)
        obtain ⟨r, hr, e51⟩ := hdep 6 (by decide) (by kernel_rfl)
        have E46 : a1.tmps[46]?.getD undef = f 46 := by rw [← ha1]; exact putsL_in2 _ _ _ _ (by decide) (show 46 < 69 from by decide)
        have E51 : a1.tmps[51]?.getD undef = f 51 := by rw [← ha1]; exact putsL_in2 _ _ _ _ (by decide) (show 51 < 69 from by decide)
        rw [e46] at E46
        rw [e51] at E51
        have hr0 : (0 : Int) ≤ (r : Int) := by omega
        have hr1 : (r : Int) < (m : Int) := by omega
        exact wpOp_val rfl rfl (v := .pointer (some ⟨h, r * 6, none⟩)) (w' := W) (by simp [execOp, go_sem, E46, E51, hr0, hr1, hr]) ⟨hIW, fun _ h => h, _, by decide, rfl, ⟨r, hr, (updF_other f _ (by decide)).trans e51, updF_same _ _ _⟩⟩
      | 12, _, hdep =>
        obtain ⟨r, hr, e51, e56⟩ := hdep 11 (by decide) (by kernel_rfl)
        have E56 : a1.tmps[56]?.getD undef = f 56 := by rw [← ha1]; exact putsL_in2 _ _ _ _ (by decide) (show 56 < 69 from by decide)
        rw [e56] at E56
        exact wpOp_val rfl rfl (v := .pointer (some ⟨h, r * 6 + 4, none⟩)) (w' := W) (by simp [execOp, go_sem, E56]) ⟨hIW, fun _ h => h, _, by decide, rfl, ⟨r, hr, (updF_other f _ (by decide)).trans e51, updF_same _ _ _⟩⟩
      | i + 13, h, _ => exact absurd h (by omega)
    case refine_2 =>
      intro f W hIW hR
      have h10 := hR 10 (by decide)
      have h12 := hR 12 (by decide)
      obtain ⟨r, hr, e51, e55⟩ := h10
      obtain ⟨r', hr', e51', e57⟩ := h12
      have hrr : r' = r := by rw [e51] at e51'; injection e51' with _ h; omega
      subst hrr
      generalize ha1 : putsL _ [45, 46, 47, 48, 49, 50, 51, 52, 53, 54, 55, 56, 57] f = a1
      have E55 : a1.tmps[55]?.getD undef = f 55 := by rw [← ha1]; exact putsL_in2 _ _ _ _ (by decide) (show 55 < 69 from by decide)
      have E57 : a1.tmps[57]?.getD undef = f 57 := by rw [← ha1]; exact putsL_in2 _ _ _ _ (by decide) (show 57 < 69 from by decide)
      rw [e55] at E55
      rw [e57] at E57
      have v1 := HROW2.out W hIW r' hr'
      have g1 := HRF2.out W hIW (r' * 6 + 4)
      exact wpOp_skip rfl rfl (w' := W.setCell ⟨h, r' * 6 + 4, none⟩ (.int .i64 ((entAt a.ents r').amount + 1))) (by simp [execOp, E55, E57, go_sem, v1, g1]) ⟨rfl, HPUT2.out W r' hIW hr'⟩
    case refine_3 =>
      intro f W hK
      simp only [putsL, List.foldl_cons, List.foldl_nil, Act.put, List.setIfInBounds_toArray, List.set_cons_zero, List.set_cons_succ]
      go_wp2
      go_meet
      exact Lib.hid hK
  case rest =>
  have hk := hcut.out
  rw [hK12] at hk
  obtain ⟨r, hr, hs1, hb, hsu, hen⟩ := hk
  rw [entAt_get (by rw [← HML.out]; exact hr)] at hen
  have hbent := bent_amount HOK.out r (by rw [← HML.out]; exact hr) 1 (by decide)
  have HC1 : Hid (Calls Try.prog 15 #[.agg #[.int .i64 cr, .slice aS 4 cS, .slice (some ⟨h, 0, none⟩) m c6]] wc fun e w' => e = .returned (.int .i64 62) ∧ Below wc.heap.size wc w') := Lib.hid (by
    have h1 := acCheck_any { a with ents := a.ents.set r { a.ents[r]'(by rw [← HML.out]; exact hr) with amount := (a.ents[r]'(by rw [← HML.out]; exact hr)).amount + 1 } } (.slice aS 4 cS) (.slice (some ⟨h, 0, none⟩) m c6) wc hsu hen (by simp only; rw [HSL.out]; omega) (by simp only [List.length_set]; rw [← HML.out]; omega)
    rw [hbent] at h1
    have h' : Calls Try.prog 15 #[.agg #[.int .i64 a.credit, .slice aS 4 cS, .slice (some ⟨h, 0, none⟩) m c6]] wc fun e w' => e = .returned (.int .i64 62) ∧ Below wc.heap.size wc w' := h1
    rw [← HCR.out] at h'
    exact h')
  have HT1 : Hid (∀ W, Below wc.heap.size wc W → Calls Try.prog 14 #[.agg #[.int .i64 cr, .slice aS 4 cS, .slice (some ⟨h, 0, none⟩) m c6]] W fun e w' => e = .returned (.int .i64 0) ∧ Below W.heap.size W w') := Lib.hid fun W hW => by
    have h1 := acTotal_any { a with ents := a.ents.set r { a.ents[r]'(by rw [← HML.out]; exact hr) with amount := (a.ents[r]'(by rw [← HML.out]; exact hr)).amount + 1 } } (.slice aS 4 cS) (.slice (some ⟨h, 0, none⟩) m c6) W (hsu.below hW) (hen.below hW) (by simp only; rw [HSL.out]; omega) (by simp only [List.length_set]; rw [← HML.out]; omega)
    unfold totalM at h1
    rw [if_neg (by rw [hbent]; decide)] at h1
    have h' : Calls Try.prog 14 #[.agg #[.int .i64 a.credit, .slice aS 4 cS, .slice (some ⟨h, 0, none⟩) m c6]] W fun e w' => e = .returned (.int .i64 0) ∧ Below W.heap.size W w' := h1
    rw [← HCR.out] at h'
    exact h'
  have HXC := Lib.hid hb
  have u0 := obj_cell hb 0
  have u1 := obj_cell hb 1
  have u2 := obj_cell hb 2
  simp at u0 u1 u2
  have HBW := Lib.hid (HFIN.out _ hs1)
  clear hs1 hb hsu hen hbent hr hcut hK12 HPUT2 HNM HW2 HRF2 HROW2 HCL2 HTU2 HBE2 HI11 HIO2 hI2
  go_wp2_with fail
  refine (HC1.out).mono ?_
  rintro e w12 ⟨rfl, hb12⟩
  have HB12 := Lib.hid hb12
  have hbx := obj_below HXC.out hb12
  have v0 := obj_cell hbx 0
  have v1 := obj_cell hbx 1
  have v2 := obj_cell hbx 2
  simp at v0 v1 v2
  clear hb12 hbx u0 u1 u2
  go_wp2_with fail
  refine (HT1.out _ HB12.out).mono ?_
  rintro e w13 ⟨rfl, hb13⟩
  have HB13 := Lib.hid (HB12.out.trans (hb13.mono HB12.out.size))
  clear hb13
  go_wp2_with fail
  refine (HSN.out _).mono ?_
  rintro e w14 ⟨rfl, hb14⟩
  have HB14 := Lib.hid (HB13.out.trans (hb14.mono HB13.out.size))
  clear hb14
  go_wp2
  go_ret
  exact ⟨rfl, HBW.out.trans (HB14.out.mono HBW.out.size)⟩

end Go.Proofs.Ythajkhonapjihac
