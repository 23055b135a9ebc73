/- Flows: how they lie in memory; what they make of a position, day by day; of no function of the program; no condition. -/
import Derived.Test.YtebgfbcojhmdlaaDoorPosM
set_option linter.unusedSimpArgs false
set_option linter.unusedVariables false
namespace Go.Proofs.YtebgfbcojhmdlaaDoor
open Go.RowKit Go.Lib Go.Proofs

structure Flw where
  day : Int
  amt : Int
  kind : Int
  ref : Int
def flowC (f : Flw) : List Value := [.int .i64 f.day, .int .i64 f.amt, .int .i64 f.kind, .int .i64 f.ref]
theorem flowF : Fields flowC 4 := ⟨fun _ => rfl, fun x u h => by simp [flowC] at h; rcases h with rfl | rfl | rfl | rfl <;> rfl, by decide⟩
theorem Tryd.infoFlow : (Tryd.prog.info? 50).map (fun i => (i.zero, i.size, i.bytes)) = some (some (.agg #[.int .i64 0, .int .i64 0, .int .i64 0, .int .i64 0]), 4, 32) := by kernel_rfl

/-- A flow within the bounds of the statements. -/
structure FlwOk (D : Int) (f : Flw) : Prop where
  d0 : 0 ≤ f.day
  d1 : f.day ≤ D
  nz : f.amt ≠ 0
  a0 : -1000 ≤ f.amt
  a1 : f.amt ≤ 1000
  k0 : 1 ≤ f.kind
  k1 : f.kind ≤ 5
  r0 : 0 ≤ f.ref
  r1 : f.ref ≤ 1000
def FlwsOk (D : Int) (l : List Flw) : Prop := ∀ f ∈ l, FlwOk D f

/-- What the flows of a day come to. -/
def dayAmt (d : Int) : List Flw → Int
  | [] => 0
  | f :: l => (if f.day = d then f.amt else 0) + dayAmt d l
theorem dayAmt_snoc (d : Int) (f : Flw) : ∀ l, dayAmt d (l ++ [f]) = dayAmt d l + (if f.day = d then f.amt else 0)
  | [] => by simp [dayAmt]
  | g :: l => by simp only [List.cons_append, dayAmt, dayAmt_snoc d f l]; omega
theorem dayAmt_app (d : Int) : ∀ l m : List Flw, dayAmt d (l ++ m) = dayAmt d l + dayAmt d m
  | [], m => by simp [dayAmt]
  | g :: l, m => by simp only [List.cons_append, dayAmt, dayAmt_app d l m]; omega
theorem dayAmt_perm (d : Int) {l m : List Flw} (h : l.Perm m) : dayAmt d l = dayAmt d m := by
  induction h with
  | nil => rfl
  | cons x _ ih => simp only [dayAmt, ih]
  | swap x y l => simp only [dayAmt]; omega
  | trans _ _ h1 h2 => exact h1.trans h2
theorem dayAmt_in {D : Int} (d : Int) : ∀ {l : List Flw}, FlwsOk D l → -1000 * (l.length : Int) ≤ dayAmt d l ∧ dayAmt d l ≤ 1000 * (l.length : Int)
  | [], _ => by simp [dayAmt]
  | f :: l, h => by
    have ih := dayAmt_in d (l := l) fun x hx => h x (List.mem_cons_of_mem _ hx)
    have h1 := h f (List.mem_cons_self ..)
    have := h1.a0
    have := h1.a1
    simp only [dayAmt, List.length_cons]
    split <;> omega

/-- The position behind k days from a day on. -/
def balK (o from_ : Int) (l : List Flw) : Nat → Int
  | 0 => o
  | k + 1 => balK o from_ l k + dayAmt (from_ + k) l
theorem balK_in {D : Int} (o from_ : Int) {l : List Flw} (h : FlwsOk D l) : ∀ k : Nat, o - 1000 * (l.length : Int) * k ≤ balK o from_ l k ∧ balK o from_ l k ≤ o + 1000 * (l.length : Int) * k
  | 0 => by simp [balK]
  | k + 1 => by
    have ih := balK_in o from_ h k
    have hd := dayAmt_in (from_ + k) h
    simp only [balK, Int.natCast_add, Int.natCast_one, Int.mul_add, Int.mul_one]
    omega
/-- A forecast of n days. -/
def fprojL (o from_ : Int) (l : List Flw) (n : Nat) : List Pos := (List.range n).map fun (k : Nat) => ⟨from_ + k, balK o from_ l (k + 1)⟩
theorem fprojL_len (o from_ : Int) (l : List Flw) (n : Nat) : (fprojL o from_ l n).length = n := by simp [fprojL]
theorem fprojL_snoc (o from_ : Int) (l : List Flw) (n : Nat) : fprojL o from_ l (n + 1) = fprojL o from_ l n ++ [⟨from_ + n, balK o from_ l (n + 1)⟩] := by simp [fprojL, List.range_succ]
theorem fprojL_get (o from_ : Int) (l : List Flw) (n k : Nat) (h : k < (fprojL o from_ l n).length) : (fprojL o from_ l n)[k] = ⟨from_ + k, balK o from_ l (k + 1)⟩ := by simp [fprojL]

end Go.Proofs.YtebgfbcojhmdlaaDoor
