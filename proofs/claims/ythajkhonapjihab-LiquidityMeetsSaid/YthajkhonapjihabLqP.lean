/- Positions: how they lie in memory, and the source's Positions: days that ascend, amounts from -300 to 300. -/
import Derived.Test.YthajkhonapjihabLqD
import Derived.Test.YthajkhonapjihabRowL
import Derived.Test.YthajkhonapjihabPosM
set_option linter.unusedSimpArgs false
set_option linter.unusedVariables false
namespace Go.Proofs.Ythajkhonapjihab
open Go.RowKit Go.Lib Go.Proofs

/-- Positions on days that ascend from d0 on up to d; amounts from -a to a. -/
def PosOk (a : Int) : Int → List Pos → Prop
  | _, [] => True
  | d0, p :: l => d0 < p.day ∧ p.day ≤ d0 + 3 ∧ -a ≤ p.amt ∧ p.amt ≤ a ∧ PosOk a p.day l
def lastD (d0 : Int) : List Pos → Int
  | [] => d0
  | p :: l => lastD p.day l

theorem posOk_snoc {a : Int} {p : Pos} : ∀ {l : List Pos} {d0 : Int}, PosOk a d0 l → lastD d0 l < p.day → p.day ≤ lastD d0 l + 3 → -a ≤ p.amt → p.amt ≤ a → PosOk a d0 (l ++ [p]) ∧ lastD d0 (l ++ [p]) = p.day
  | [], d0, _, h1, h2, h3, h4 => ⟨⟨h1, h2, h3, h4, trivial⟩, rfl⟩
  | q :: l, d0, h, h1, h2, h3, h4 => by
    obtain ⟨g1, g2, g3, g4, g5⟩ := h
    obtain ⟨k1, k2⟩ := posOk_snoc (l := l) (d0 := q.day) g5 h1 h2 h3 h4
    exact ⟨⟨g1, g2, g3, g4, k1⟩, k2⟩
theorem posOk_get {a : Int} : ∀ {l : List Pos} {d0 : Int}, PosOk a d0 l → ∀ i (h : i < l.length), d0 < l[i].day ∧ l[i].day ≤ d0 + 3 * (i + 1) ∧ -a ≤ l[i].amt ∧ l[i].amt ≤ a ∧ (0 < i → ∀ hi : i - 1 < l.length, l[i - 1].day < l[i].day)
  | [], _, _, _, h => by simp at h
  | p :: l, d0, h, 0, _ => by
    obtain ⟨g1, g2, g3, g4, g5⟩ := h
    exact ⟨g1, by simp; omega, g3, g4, fun h => by omega⟩
  | p :: l, d0, h, i + 1, hi => by
    obtain ⟨g1, g2, g3, g4, g5⟩ := h
    have hi' : i < l.length := by simpa using hi
    obtain ⟨k1, k2, k3, k4, k5⟩ := posOk_get g5 i hi'
    refine ⟨by simp; omega, by simp; omega, k3, k4, fun _ hj => ?_⟩
    match i, hi', k1, k5 with
    | 0, hi', k1, _ => exact k1
    | j + 1, hi', _, k5 => exact k5 (by omega) (by omega)

/-- What Positions hands back. -/
def PosPost (tb m : Nat) (w : World) (e : Ending) (w' : World) : Prop := ∃ (v : Value) (l : List Pos), e = .returned v ∧ l.length ≤ m ∧ PosOk 300 0 l ∧ w'.ownsRow w.heap.size 56 2 v l.length (cellsL posC l) ∧ SI w tb w'

set_option maxRecDepth 100000 in
set_option maxHeartbeats 4000000 in
theorem sPositions_any (tb m : Nat) (w : World) (ht : SrcAt w tb) (hm : m ≤ 1000) : Calls Try.prog 21 #[.pointer (some ⟨tb, 0, none⟩), .int .i64 (m : Int)] w (PosPost tb m w) := by
  obtain ⟨i0, hi0, hz0, hz1, hz2⟩ := info_parts Try.infoPos
  have HS := Lib.hid (si_start ht)
  have HN := Lib.hid (fun W (h : SI w tb W) => n_in h ((m : Int) + 1) (by omega) (by omega))
  have HR1 := Lib.hid (fun W (h : SI w tb W) => range_in h 1 3 (by omega) (by omega) (by omega))
  have HR2 := Lib.hid (fun W (h : SI w tb W) => range_in h (-300) 300 (by omega) (by omega) (by omega))
  clear ht
  go_enter Try.func21, Try.ntmps21
  go_wp2_with fail
  with_reducible refine (HN.out _ HS.out).mono ?_
  rintro e w1 ⟨k, rfl, k0, k1, hi1, _⟩
  have HI1 := Lib.hid hi1
  obtain ⟨k, rfl⟩ : ∃ n : Nat, k = n := ⟨k.toNat, by omega⟩
  clear hi1 HS HN
  go_wp2
  go_loopw [5, 6, 7] (fun v dv kv wr => ∃ (l : List Pos) (d : Int) (j : Nat), dv = .int .i64 d ∧ kv = .int .i64 j ∧ l.length + j ≤ m ∧ PosOk 300 0 l ∧ lastD 0 l = d ∧ 0 ≤ d ∧ d ≤ 3 * (l.length : Int) ∧ wr.ownsRow w.heap.size 56 2 v l.length (cellsL posC l) ∧ SI w tb wr) (fun _ _ kv _ => (RowKit.intOf kv).toNat)
  case atStart => exact ⟨[], 0, k, rfl, rfl, by simp; omega, trivial, rfl, by omega, by simp, World.ownsRow_nil _ _ _ _, HI1.out⟩
  case round =>
    obtain ⟨l, d, j, rfl, rfl, hlj, hok, hld, d0, d1, hown, hsi⟩ := hrel
    have HL := Lib.hid hld
    have HO := Lib.hid hok
    by_cases hj : 0 < j
    · have HSI := Lib.hid hsi
      have hj0 : (0 : Int) < (j : Int) := by omega
      clear hld hok hsi hj
      go_wp2_with fail
      with_reducible refine (HR1.out _ HSI.out).mono ?_
      rintro e w2 ⟨r, rfl, r0, r1, hi2, hg2⟩
      have hown2 := hown.kept hg2 (ownBlock_ne hown tb hi2.lt)
      have HI2 := Lib.hid hi2
      clear hi2 hg2 hown HSI
      go_wp2_with fail
      with_reducible refine (HR2.out _ HI2.out).mono ?_
      rintro e w3 ⟨a, rfl, a0, a1, hi3, hg3⟩
      have hown3 := hown2.kept hg3 (ownBlock_ne hown2 tb hi3.lt)
      have HI3 := Lib.hid hi3
      have hle3 := hi3.old.size
      clear hi3 hg3 hown2 HI2
      go_wp2_with (at_builtin; refine wpList_append_own _ rfl _ _ 50 rfl w.heap.size 56 i0 (.agg #[.int .i64 0, .int .i64 0]) 2 16 Try.underlying50 hi0 hz0 hz1 hz2 rfl (by decide) _ _ _ rfl (hown3.alloc _) ⟨w3.heap.size, 0, none⟩ 1 1 (posC ⟨d + r, a⟩) rfl rfl (new_cells _ _ _ _ rfl) (pos_one _) (by unfold maxLen; omega) (by omega) (by simp; omega) ?_; intro v' w4 hown4 hgr4 _)
      go_roundw
      case rel =>
        obtain ⟨h1, h2⟩ := posOk_snoc (p := ⟨d + r, a⟩) HO.out (by rw [HL.out]; show d < d + r; omega) (by rw [HL.out]; show d + r ≤ d + 3; omega) a0 a1
        refine ⟨l ++ [⟨d + r, a⟩], d + r, j - 1, by first | rfl | go_num, by (congr 1; omega), by simp; omega, h1, h2, by omega, by simp; omega, ?_, (HI3.out.alloc _).grown hgr4 fun r hr => ownBlock_le hown3 r hr⟩
        rw [cellsL_snoc] at hown4
        simpa using hown4
      case measure => simp [RowKit.intOf]; omega
    · obtain rfl : j = 0 := by omega
      clear hld hok hj
      go_wp2
      go_ret
      exact ⟨_, l, rfl, by omega, HO.out, hown, hsi⟩

end Go.Proofs.Ythajkhonapjihab
