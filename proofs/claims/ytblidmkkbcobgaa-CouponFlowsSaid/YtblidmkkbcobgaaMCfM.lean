/- What all flows of a debt are, and what they come to: mathematics. -/
import Derived.Test.YtblidmkkbcobgaaMCfP
set_option linter.unusedSimpArgs false
set_option linter.unusedVariables false
set_option linter.unusedSimpArgs false
set_option linter.unusedVariables false
namespace Go.Proofs.Ytblidmkkbcobgaa
open Go.RowKit Go.Lib Go.Proofs

/-- The flows of a security. -/
def secL (r : Reg) (s : Sec) : List Flw := (daysQ s).flatMap (fun d => payM s.id d (cpnO s r.hs)) ++ payM s.id s.mat (outM r.hs s.id)
def untilL (r : Reg) : List Flw := r.secs.flatMap (secL r)
/-- What flows come to. -/
def sumF : List Flw → Int
  | [] => 0
  | f :: l => f.amt + sumF l
theorem sumF_app : ∀ l m : List Flw, sumF (l ++ m) = sumF l + sumF m
  | [], m => by simp [sumF]
  | f :: l, m => by simp only [List.cons_append, sumF, sumF_app l m]; omega
theorem sumF_perm {l m : List Flw} (h : l.Perm m) : sumF l = sumF m := by
  induction h with
  | nil => rfl
  | cons x _ ih => simp only [sumF, ih]
  | swap x y l => simp only [sumF]; omega
  | trans _ _ ih1 ih2 => exact ih1.trans ih2
theorem sumF_pay (id d a : Int) : sumF (payM id d a) = -a := by
  unfold payM
  split
  · rename_i h; subst h; rfl
  · simp [sumF]
theorem sumF_days (id a : Int) : ∀ l : List Int, sumF (l.flatMap fun d => payM id d a) = -(a * (l.length : Int))
  | [] => by simp [sumF]
  | d :: l => by
    rw [List.flatMap_cons, sumF_app, sumF_pay, sumF_days id a l, List.length_cons, Int.natCast_add, Int.mul_add]
    simp
    omega
theorem sumF_sec (r : Reg) (s : Sec) : sumF (secL r s) = -(cpnO s r.hs * ((daysQ s).length : Int) + outM r.hs s.id) := by
  unfold secL
  rw [sumF_app, sumF_days, sumF_pay]
  omega

/-- Sums over securities and holdings, in either order. -/
def sumT (g : Sec → Int) : List Sec → Int
  | [] => 0
  | s :: l => g s + sumT g l
theorem sumT_add (g k : Sec → Int) : ∀ l : List Sec, sumT (fun s => g s + k s) l = sumT g l + sumT k l
  | [] => by simp [sumT]
  | s :: l => by simp only [sumT, sumT_add g k l]; omega
theorem sumT_zero : ∀ l : List Sec, sumT (fun _ => 0) l = 0
  | [] => rfl
  | s :: l => by simp [sumT, sumT_zero l]
theorem sumT_miss (id : Int) (g : Sec → Int) : ∀ {l : List Sec}, (∀ s ∈ l, id ≠ s.id) → sumT (fun s => if id = s.id then g s else 0) l = 0
  | [], _ => rfl
  | s :: l, h => by
    simp only [sumT]
    rw [if_neg (h s List.mem_cons_self), sumT_miss id g fun t ht => h t (List.mem_cons_of_mem _ ht)]
    rfl
theorem sumT_one (id : Int) (g : Sec → Int) : ∀ {l : List Sec} {s : Sec}, (l.Pairwise fun a b => a.id < b.id) → findS id l = some s → sumT (fun s => if id = s.id then g s else 0) l = g s
  | [], s, _, h => by simp [findS] at h
  | t :: l, s, hp, h => by
    rw [List.pairwise_cons] at hp
    simp only [findS] at h
    simp only [sumT]
    split at h
    · rename_i e
      injection h with h
      subst h
      rw [if_pos e.symm, sumT_miss id g fun u hu => by have := hp.1 u hu; omega]
      omega
    · rename_i e
      rw [if_neg fun q => e q.symm, sumT_one id g hp.2 h]
      omega
/-- What a holding brings: its coupons, and itself. -/
def wantM (secs : List Sec) : List Hld → Int
  | [] => 0
  | h :: l => (couponI (secAt secs h.sec) h.amt * ((daysQ (secAt secs h.sec)).length : Int) + h.amt) + wantM secs l
theorem want_app (secs : List Sec) : ∀ l m : List Hld, wantM secs (l ++ m) = wantM secs l + wantM secs m
  | [], m => by simp [wantM]
  | h :: l, m => by simp only [List.cons_append, wantM, want_app secs l m]; omega
theorem want_all {secs : List Sec} (ha : secs.Pairwise fun a b => a.id < b.id) : ∀ {l : List Hld}, (∀ h ∈ l, findS h.sec secs = some (secAt secs h.sec)) → sumT (fun s => cpnO s l * ((daysQ s).length : Int) + outM l s.id) secs = wantM secs l
  | [], _ => by
    simp only [cpnO, outM, sumH, wantM, Int.zero_mul, Int.add_zero]
    exact sumT_zero secs
  | h :: l, k => by
    have ih := want_all ha (l := l) fun x hx => k x (List.mem_cons_of_mem _ hx)
    have h1 := sumT_one h.sec (fun s => couponI s h.amt * ((daysQ s).length : Int) + h.amt) ha (k h List.mem_cons_self)
    simp only [wantM]
    rw [← ih, ← h1, ← sumT_add]
    congr 1
    funext s
    simp only [cpnO, outM, sumH, isOf]
    by_cases e : h.sec = s.id
    · simp only [e, if_true, beq_self_eq_true]
      rw [Int.add_mul]
      omega
    · have e2 : (h.sec == s.id) = false := beq_eq_false_iff_ne.2 e
      simp only [e, e2, if_false, Int.zero_add]
      simp
theorem sumF_secs (r : Reg) : ∀ l : List Sec, sumF (l.flatMap (secL r)) = -(sumT (fun s => cpnO s r.hs * ((daysQ s).length : Int) + outM r.hs s.id) l)
  | [] => by simp [sumF, sumT]
  | s :: l => by
    rw [List.flatMap_cons, sumF_app, sumF_sec, sumF_secs r l]
    simp only [sumT]
    omega
theorem until_want {r : Reg} (h : RegOk r) : sumF (untilL r) = -(wantM r.secs r.hs) := by
  unfold untilL
  rw [sumF_secs, want_all h.secs.asc fun x hx => (h.known x hx).1]
/-- Each flow is the debt's, goes out, and falls on a business day. -/
theorem pay_ok {id d a : Int} (hd : 0 ≤ d) (ha : 0 ≤ a) : ∀ f ∈ payM id d a, f.day % 7 ≤ 4 ∧ f.amt < 0 ∧ f.kind = 4 := fun f hf => by
  unfold payM at hf
  split at hf
  · simp at hf
  · rename_i hz
    rw [List.mem_singleton] at hf
    subst hf
    obtain ⟨-, -, h3, -⟩ := nextI_facts d hd
    exact ⟨by show nextI d % 7 ≤ 4; omega, by show -a < 0; omega, rfl⟩
theorem until_ok {r : Reg} (h : RegOk r) : ∀ f ∈ untilL r, f.day % 7 ≤ 4 ∧ f.amt < 0 ∧ f.kind = 4 := fun f hf => by
  unfold untilL at hf
  rw [List.mem_flatMap] at hf
  obtain ⟨s, hs, hf⟩ := hf
  have hsr := h.secs.ok s hs
  unfold secL at hf
  rw [List.mem_append, List.mem_flatMap] at hf
  rcases hf with ⟨d, hd, hf⟩ | hf
  · exact pay_ok (days_in hsr d hd).1 (cpnO_in hsr h.hld).1 f hf
  · refine pay_ok ?_ (sumH_le h.hld).1 f hf
    obtain ⟨z, q, k⟩ := hsr
    have h2 := k.iss0
    have h3 := k.term
    have h4 : 0 ≤ z * q := Int.mul_nonneg (by rcases k.ev with e | e | e | e | e <;> omega) (by have := k.r0; omega)
    omega
theorem pay_len (id d a : Int) : (payM id d a).length ≤ 1 := by unfold payM; split <;> simp
theorem days_flat (id a : Int) : ∀ l : List Int, (l.flatMap fun d => payM id d a).length ≤ l.length
  | [] => by simp
  | d :: l => by
    have h1 := pay_len id d a
    have h2 := days_flat id a l
    rw [List.flatMap_cons, List.length_append, List.length_cons]
    omega
theorem sec_len (r : Reg) (s : Sec) : (secL r s).length ≤ (daysQ s).length + 1 := by
  unfold secL
  rw [List.length_append]
  have h1 := days_flat s.id (cpnO s r.hs) (daysQ s)
  have h2 := pay_len s.id s.mat (outM r.hs s.id)
  omega

end Go.Proofs.Ytblidmkkbcobgaa
