/- Balances of an entity add up to 0, those of all entities are the sums of each, a posting changes two accounts: mathematics; of no function of the program; no condition. -/
import Derived.Test.YtdbpbmejgdbppaaLgB
namespace Go.Proofs.Ytdbpbmejgdbppaa
open Go.RowKit Go.Lib Go.Proofs Go.Maps

def totB : List Blc → Int
  | [] => 0
  | b :: l => b.amt + totB l
theorem totB_append : ∀ l m : List Blc, totB (l ++ m) = totB l + totB m
  | [], m => by simp [totB]
  | b :: l, m => by simp only [List.cons_append, totB, totB_append l m]; omega
theorem acctsM_take_succ (n : Nat) : ((List.range (n + 1)).map fun i : Nat => (100 : Int) + (i : Int)) = ((List.range n).map fun i : Nat => (100 : Int) + (i : Int)) ++ [100 + (n : Int)] := by
  rw [List.range_succ, List.map_append]; rfl
theorem totB_range (g : Int → Int) : ∀ n : Nat, totB (balsOf g ((List.range n).map fun i : Nat => (100 : Int) + (i : Int))) = sumZ (fun _ => true) g n
  | 0 => rfl
  | n + 1 => by
    rw [acctsM_take_succ, balsOf_snoc, sumZ, ← totB_range g n]
    by_cases h : g (100 + (n : Int)) = 0
    · rw [if_pos h]; simp [h]
    · rw [if_neg h, totB_append]; simp [totB]
theorem totB_bals (g : Int → Int) : totB (balsM g) = sumZ (fun _ => true) g 500 := totB_range g 500
theorem sumZ_zero (q : Int → Bool) : ∀ m : Nat, sumZ q (fun _ => 0) m = 0
  | 0 => rfl
  | m + 1 => by rw [sumZ, sumZ_zero q m]; split <;> rfl
theorem sumZ_netP {p : Pst} (hp : PstOk p) : sumZ (fun _ => true) (fun x => netP x p) 500 = 0 := by
  have h1 := hp.deb
  have h2 := hp.crd
  have : sumZ (fun _ => true) (fun x => netP x p) 500 = sumZ (fun _ => true) (fun x => (if x = p.deb then p.amt else 0) + (if x = p.crd then -p.amt else 0)) 500 := sumZ_congr fun i _ => by
    unfold netP
    congr 1
    split <;> split <;> omega
  rw [this, sumZ_add, sumZ_single h1.1 (by omega), sumZ_single h2.1 (by omega)]
  simp
  omega
theorem sumZ_ofM (e : Int) (f : Int → Bool) : ∀ {l : List Pst}, (∀ p ∈ l, PstOk p) → sumZ (fun _ => true) (fun x => ofM e f x l) 500 = 0
  | [], _ => sumZ_zero _ _
  | p :: l, h => by
    have ih := sumZ_ofM e f (l := l) fun q hq => h q (List.mem_cons_of_mem _ hq)
    simp only [ofM]
    rw [sumZ_add, ih]
    cases hitE e p && f p.day with
    | true => simp only [if_true]; rw [sumZ_netP (h p List.mem_cons_self)]; rfl
    | false =>
      have : sumZ (fun _ => true) (fun x => if false = true then netP x p else 0) 500 = 0 := sumZ_zero _ _
      rw [this]; rfl
/-- The balances of an entity add up to 0. -/
theorem bals_zero (e : Int) (f : Int → Bool) {l : List Pst} (h : ∀ p ∈ l, PstOk p) : totB (balsM fun x => ofM e f x l) = 0 := by rw [totB_bals, sumZ_ofM e f h]
/-- The parts of a row of balances stay small. -/
theorem totB_bound {B : Int} (hB : 0 ≤ B) : ∀ {l : List Blc}, (∀ b ∈ l, -B ≤ b.amt ∧ b.amt ≤ B) → -(B * (l.length : Int)) ≤ totB l ∧ totB l ≤ B * (l.length : Int)
  | [], _ => by simp [totB]
  | b :: l, h => by
    have h1 := totB_bound hB (l := l) fun x hx => h x (List.mem_cons_of_mem _ hx)
    have h2 := h b List.mem_cons_self
    have h3 : B * (((b :: l).length : Nat) : Int) = B * (l.length : Int) + B := by rw [List.length_cons, Int.natCast_add, Int.mul_add]; simp
    rw [totB, h3]
    omega
theorem mem_bals {g : Int → Int} {b : Blc} (h : b ∈ balsM g) : b.amt = g b.acct ∧ b.amt ≠ 0 ∧ 100 ≤ b.acct ∧ b.acct ≤ 599 := by
  unfold balsM balsOf at h
  obtain ⟨x, hx, rfl⟩ := List.mem_map.1 h
  obtain ⟨h1, h2⟩ := List.mem_filter.1 hx
  have := mem_acctsM.1 h1
  exact ⟨rfl, by simpa using h2, this.1, this.2⟩
theorem bals_length (g : Int → Int) : (balsM g).length ≤ 500 := by
  have h1 := balsOf_length g acctsM
  have h2 : acctsM.length = 500 := by unfold acctsM; simp
  unfold balsM
  omega
/-- What all entities have together. -/
theorem ofM_three (f : Int → Bool) (a : Int) : ∀ {l : List Pst}, (∀ p ∈ l, 1 ≤ p.ent ∧ p.ent ≤ 3) → ofM 1 f a l + ofM 2 f a l + ofM 3 f a l = ofM 0 f a l
  | [], _ => rfl
  | p :: l, h => by
    have ih := ofM_three f a (l := l) fun q hq => h q (List.mem_cons_of_mem _ hq)
    have hp := h p List.mem_cons_self
    simp only [ofM]
    have h0 : hitE 0 p = true := by simp [hitE]
    rw [h0]
    have hc : p.ent = 1 ∨ p.ent = 2 ∨ p.ent = 3 := by omega
    rcases hc with hc | hc | hc
    · have h1 : hitE 1 p = true := by simp [hitE, hc]
      have h2 : hitE 2 p = false := by simp [hitE, hc]
      have h3 : hitE 3 p = false := by simp [hitE, hc]
      rw [h1, h2, h3]; cases f p.day <;> simp <;> omega
    · have h1 : hitE 1 p = false := by simp [hitE, hc]
      have h2 : hitE 2 p = true := by simp [hitE, hc]
      have h3 : hitE 3 p = false := by simp [hitE, hc]
      rw [h1, h2, h3]; cases f p.day <;> simp <;> omega
    · have h1 : hitE 1 p = false := by simp [hitE, hc]
      have h2 : hitE 2 p = false := by simp [hitE, hc]
      have h3 : hitE 3 p = true := by simp [hitE, hc]
      rw [h1, h2, h3]; cases f p.day <;> simp <;> omega
/-- A posting adds its amount to the account that it debits .. -/
theorem ofM_debit {f : Int → Bool} {p : Pst} (l : List Pst) (hp : PstOk p) (hf : f p.day = true) : ofM p.ent f p.deb (l ++ [p]) = ofM p.ent f p.deb l + p.amt := by
  rw [ofM_snoc]
  have h1 : hitE p.ent p = true := by simp [hitE]
  rw [h1, hf]
  simp [netP, hp.ne]
/-- .. takes it from the one that it credits .. -/
theorem ofM_credit {f : Int → Bool} {p : Pst} (l : List Pst) (hp : PstOk p) (hf : f p.day = true) : ofM p.ent f p.crd (l ++ [p]) = ofM p.ent f p.crd l - p.amt := by
  rw [ofM_snoc]
  have h1 : hitE p.ent p = true := by simp [hitE]
  have h2 : ¬ p.crd = p.deb := fun e => hp.ne e.symm
  rw [h1, hf]
  simp [netP, h2]
  omega
/-- .. and changes nothing of another entity. -/
theorem ofM_other {f : Int → Bool} {p : Pst} (l : List Pst) {e : Int} (a : Int) (h0 : e ≠ 0) (he : p.ent ≠ e) : ofM e f a (l ++ [p]) = ofM e f a l := by
  rw [ofM_snoc]
  have h1 : hitE e p = false := by simp [hitE, h0, he]
  rw [h1]; simp
/-- The posting that turns another one. -/
def turnP (p : Pst) (n d : Int) : Pst := ⟨n, d, p.ent, p.crd, p.deb, p.amt, p.par, p.ref⟩
theorem turnP_ok {p : Pst} (h : PstOk p) {n d : Int} (hn : 1 ≤ n ∧ n ≤ 1000000) (hd : 0 ≤ d ∧ d ≤ 36000) : PstOk (turnP p n d) :=
  ⟨hn, hd, h.ent, h.crd, h.deb, fun e => h.ne e.symm, h.amt, h.par, h.pne, h.ref⟩
theorem turnP_back (p : Pst) (n d : Int) : turnP (turnP p n d) p.num p.day = p := rfl
theorem ofM_turned {f : Int → Bool} (l : List Pst) (p : Pst) (n d e a : Int) (h1 : f p.day = true) (h2 : f d = true) : ofM e f a (l ++ [p] ++ [turnP p n d]) = ofM e f a l := by
  rw [ofM_snoc, ofM_snoc]
  have hh : hitE e (turnP p n d) = hitE e p := rfl
  have hd : (turnP p n d).day = d := rfl
  rw [hh, hd, h1, h2]
  cases hitE e p with
  | false => simp
  | true =>
    have : netP a (turnP p n d) = -netP a p := by
      unfold netP turnP
      simp only
      omega
    simp [this]; omega

end Go.Proofs.Ytdbpbmejgdbppaa
