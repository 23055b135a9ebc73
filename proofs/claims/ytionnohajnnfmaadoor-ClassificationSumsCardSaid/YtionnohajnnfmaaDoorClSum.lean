/- The contract of classification.Sum: the sum of the lines of a year, or of all years, that lie under a code; for lists of up to 1000 lines with amounts up to 100000. -/
import Derived.Test.YtionnohajnnfmaaDoorMAdd
import Derived.Test.YtionnohajnnfmaaDoorClTree
namespace Go.Proofs.YtionnohajnnfmaaDoor
open Go.RowKit Go.Lib Go.Proofs

/-- A line: its code, its year, its amount. -/
abbrev Ln := ByteArray × Int × Int

def cellsL : List Ln → List Value
  | [] => []
  | x :: l => .string x.1 :: .int .i64 x.2.1 :: .int .i64 x.2.2 :: cellsL l

theorem cellsL_len (l : List Ln) : (cellsL l).length = l.length * 3 := by
  induction l with
  | nil => rfl
  | cons x l ih => simp only [cellsL, List.length_cons, ih]; omega

theorem cellsL_get : ∀ (l : List Ln) (i : Nat) (hi : i < l.length), (cellsL l)[i * 3]? = some (.string l[i].1) ∧ (cellsL l)[i * 3 + 1]? = some (.int .i64 l[i].2.1) ∧ (cellsL l)[i * 3 + 2]? = some (.int .i64 l[i].2.2)
  | [], i, hi => absurd hi (by simp)
  | x :: l, 0, _ => ⟨rfl, rfl, rfl⟩
  | x :: l, i + 1, hi => by
    have ih := cellsL_get l i (by simpa using hi)
    rw [show (i + 1) * 3 = i * 3 + 3 by omega]
    simpa [cellsL] using ih

theorem cellsL_app (l r : List Ln) : cellsL l ++ cellsL r = cellsL (l ++ r) := by
  induction l with
  | nil => rfl
  | cons x l ih => simp only [cellsL, List.cons_append, ih]

/-- A line counts. -/
def takenB (top : ByteArray) (year : Int) (x : Ln) : Bool := (decide (year = -1) || decide (x.2.1 = year)) && coversB top x.1

/-- The sum of the lines that count. -/
def sumB (top : ByteArray) (year : Int) : List Ln → Int
  | [] => 0
  | x :: l => (if takenB top year x = true then x.2.2 else 0) + sumB top year l

theorem sumB_app (top : ByteArray) (year : Int) (l r : List Ln) : sumB top year (l ++ r) = sumB top year l + sumB top year r := by
  induction l with
  | nil => simp [sumB]
  | cons x l ih => simp only [List.cons_append, sumB, ih]; omega

theorem sumB_snoc (top : ByteArray) (year : Int) {l : List Ln} {k : Nat} (hk : k < l.length) : sumB top year (l.take (k + 1)) = sumB top year (l.take k) + if takenB top year l[k] = true then l[k].2.2 else 0 := by
  rw [List.take_succ_eq_append_getElem hk, sumB_app]
  simp [sumB]

def LinesOk (L : List Ln) : Prop := ∀ x ∈ L, x.1.size ≤ 1000000 ∧ 0 ≤ x.2.2 ∧ x.2.2 ≤ 100000

theorem sumB_bd (top : ByteArray) (year : Int) : ∀ (l : List Ln), LinesOk l → 0 ≤ sumB top year l ∧ sumB top year l ≤ 100000 * l.length
  | [], _ => by simp [sumB]
  | x :: l, h => by
    obtain ⟨i1, i2⟩ := sumB_bd top year l fun y hy => h y (List.mem_cons_of_mem _ hy)
    obtain ⟨_, h1, h2⟩ := h x (by simp)
    simp only [sumB, List.length_cons]
    split <;> (push_cast; omega)

set_option maxRecDepth 100000 in
set_option maxHeartbeats 2000000 in
theorem clSum_any (L : List Ln) (v : Value) (top : ByteArray) (year : Int) (w : World) (hL : Lay w) (hr : RowG w v L.length 3 (cellsL L)) (hlen : L.length ≤ 1000) (hok : LinesOk L) (ht : top.size ≤ 1000000) :
    Calls Tryd.prog 7 #[v, .string top, .int .i64 year] w fun e w' => e = .returned (.tuple #[.int .i64 (sumB top year L), .int .i64 0]) ∧ Below w.heap.size w w' := by
  obtain ⟨h0, ao, cap, rfl, hcap, hc⟩ := hr
  obtain ⟨n, hn⟩ : ∃ n, n = L.length := ⟨_, rfl⟩
  have HN := Lib.hid hn
  have HL := Lib.hid hL
  have HOK := Lib.hid hok
  obtain ⟨R, hR⟩ : ∃ R, R = sumB top year L := ⟨_, rfl⟩
  rw [← hR]
  have HR := Lib.hid hR
  rw [← hn] at hc hlen hcap ⊢
  have HC := Lib.hid hc
  clear h0 hn hL hok hR hc
  go_enter Tryd.func7, Tryd.ntmps7
  go_wp2
  go_loopw [8, 15] (fun a i wr => ∃ k : Nat, i = .int .i64 k ∧ k ≤ n ∧ a = .int .i64 (sumB top year (L.take k)) ∧ Hid (Below w.heap.size w wr)) (fun _ i _ => n - (RowKit.intOf i).toNat)
  case atStart => exact ⟨0, rfl, by omega, rfl, Lib.hid (Below.refl _ _)⟩
  case round =>
    obtain ⟨k, rfl, hkn, rfl, HB⟩ := hrel
    by_cases hlt : k < n
    · have hkl : k < L.length := by rw [← HN.out]; exact hlt
      rcases HC.out with hc | ⟨b, o, rfl, hb, hc⟩
      · omega
      obtain ⟨g1, g2, g3⟩ := cellsL_get L k hkl
      have c1 : wr.cell? ⟨b, o + k * 3, none⟩ = some (.string L[k].1) := by rw [HB.out.cell (by exact hb), hc (k * 3) (by omega), g1]
      have c2 : wr.cell? ⟨b, o + k * 3 + 1, none⟩ = some (.int .i64 L[k].2.1) := by rw [Nat.add_assoc, HB.out.cell (by exact hb), hc (k * 3 + 1) (by omega), g2]
      have c3 : wr.cell? ⟨b, o + k * 3 + 2, none⟩ = some (.int .i64 L[k].2.2) := by rw [Nat.add_assoc, HB.out.cell (by exact hb), hc (k * 3 + 2) (by omega), g3]
      obtain ⟨z1, z2, z3⟩ := HOK.out L[k] (List.getElem_mem hkl)
      have hst := sumB_snoc top year hkl
      have hbd := sumB_bd top year (L.take k) fun x hx => HOK.out x (List.mem_of_mem_take hx)
      have hbl : ((L.take k).length : Int) ≤ 1000 := by have := List.length_take_le k L; omega
      unfold takenB at hst
      generalize L[k].1 = c at *
      generalize L[k].2.1 = y at *
      generalize L[k].2.2 = m at *
      generalize sumB top year (L.take k) = S at *
      have hS0 : 0 ≤ S := hbd.1
      have hS1 : S ≤ 100000000 := by omega
      have hLr : Lay wr := HL.out.below HB.out (Nat.le_refl _)
      have hcv := fun o => clcovers_any top c (wr.alloc o) (hLr.below (below_alloc wr o) (Nat.le_refl _)) ht z1
      have hall : ∀ (o : Obj) W, Below (wr.alloc o).heap.size (wr.alloc o) W → Below w.heap.size w W := fun o W hW => by
        have h1 := below_alloc wr o
        exact HB.out.trans ((h1.trans (hW.mono h1.size)).mono HB.out.size)
      have HALL := Lib.hid hall
      have HADD := Lib.hid (fun W => mAdd_yes S m W (by omega) (by omega) (by omega) (by omega) (by omega) (by omega))
      clear hbd hbl hLr hall hc
      have hltw : ∀ o W, Below (wr.alloc o).heap.size (wr.alloc o) W → wr.heap.size < W.heap.size := fun o W hW => by
        have := hW.size; rw [World.size_alloc] at this; omega
      have HLTW := Lib.hid hltw
      clear hltw
      have hcnt : (year = -1 ∨ y = year) ∨ (year ≠ -1 ∧ y ≠ year) := by omega
      rcases hcnt with hcnt | ⟨hn1, hn2⟩
      · have hd : (decide (year = -1) || decide (y = year)) = true := by simpa using hcnt
        rw [hd, Bool.true_and] at hst
        generalize coversB top c = cv at *
        have HCV := Lib.hid hcv
        clear hcv hd
        cases cv with
        | true =>
          rw [if_pos rfl] at hst
          have HST := Lib.hid hst
          clear hst
          rcases hcnt with rfl | rfl
          · (go_wp2_with fail
             refine (HCV.out _).mono ?_
             rintro e w2 ⟨rfl, b2⟩
             have hc2 : w2.cell? ⟨wr.heap.size, 2, none⟩ = some (.int .i64 m) := by rw [b2.cell (p := ⟨wr.heap.size, 2, none⟩) (by simp)]; simp
             have HB2 := Lib.hid (HALL.out _ _ b2)
             have hlt2 := HLTW.out _ _ b2
             clear b2
             go_wp2_with fail
             refine (HADD.out _).mono ?_
             rintro e w3 ⟨rfl, rfl⟩
             go_wp2_with fail
             go_roundw
             case rel => exact ⟨k + 1, by first | rfl | go_num, by omega, by rw [HST.out], HB2⟩
             case measure => simp [RowKit.intOf]; omega)
          · by_cases hy : y = -1
            · subst hy
              (go_wp2_with fail
               refine (HCV.out _).mono ?_
               rintro e w2 ⟨rfl, b2⟩
               have hc2 : w2.cell? ⟨wr.heap.size, 2, none⟩ = some (.int .i64 m) := by rw [b2.cell (p := ⟨wr.heap.size, 2, none⟩) (by simp)]; simp
               have HB2 := Lib.hid (HALL.out _ _ b2)
               have hlt2 := HLTW.out _ _ b2
               clear b2
               go_wp2_with fail
               refine (HADD.out _).mono ?_
               rintro e w3 ⟨rfl, rfl⟩
               go_wp2_with fail
               go_roundw
               case rel => exact ⟨k + 1, by first | rfl | go_num, by omega, by rw [HST.out], HB2⟩
               case measure => simp [RowKit.intOf]; omega)
            · (go_wp2_with fail
               refine (HCV.out _).mono ?_
               rintro e w2 ⟨rfl, b2⟩
               have hc2 : w2.cell? ⟨wr.heap.size, 2, none⟩ = some (.int .i64 m) := by rw [b2.cell (p := ⟨wr.heap.size, 2, none⟩) (by simp)]; simp
               have HB2 := Lib.hid (HALL.out _ _ b2)
               have hlt2 := HLTW.out _ _ b2
               clear b2
               go_wp2_with fail
               refine (HADD.out _).mono ?_
               rintro e w3 ⟨rfl, rfl⟩
               go_wp2_with fail
               go_roundw
               case rel => exact ⟨k + 1, by first | rfl | go_num, by omega, by rw [HST.out], HB2⟩
               case measure => simp [RowKit.intOf]; omega)
        | false =>
          rw [if_neg (by decide), Int.add_zero] at hst
          have HST := Lib.hid hst
          clear hst
          rcases hcnt with rfl | rfl
          · (go_wp2_with fail
             refine (HCV.out _).mono ?_
             rintro e w2 ⟨rfl, b2⟩
             have HB2 := Lib.hid (HALL.out _ _ b2)
             clear b2
             go_wp2_with fail
             go_roundw
             case rel => exact ⟨k + 1, by first | rfl | go_num, by omega, by rw [HST.out], HB2⟩
             case measure => simp [RowKit.intOf]; omega)
          · by_cases hy : y = -1
            · subst hy
              (go_wp2_with fail
               refine (HCV.out _).mono ?_
               rintro e w2 ⟨rfl, b2⟩
               have HB2 := Lib.hid (HALL.out _ _ b2)
               clear b2
               go_wp2_with fail
               go_roundw
               case rel => exact ⟨k + 1, by first | rfl | go_num, by omega, by rw [HST.out], HB2⟩
               case measure => simp [RowKit.intOf]; omega)
            · (go_wp2_with fail
               refine (HCV.out _).mono ?_
               rintro e w2 ⟨rfl, b2⟩
               have HB2 := Lib.hid (HALL.out _ _ b2)
               clear b2
               go_wp2_with fail
               go_roundw
               case rel => exact ⟨k + 1, by first | rfl | go_num, by omega, by rw [HST.out], HB2⟩
               case measure => simp [RowKit.intOf]; omega)
      · have hd : (decide (year = -1) || decide (y = year)) = false := by simp [hn1, hn2]
        rw [hd, Bool.false_and, if_neg (by decide), Int.add_zero] at hst
        have HST := Lib.hid hst
        clear hst
        have HB2 := Lib.hid (HALL.out (.cells #[.string c, .int .i64 y, .int .i64 m] 32) _ (Below.refl _ _))
        clear hd hcv
        go_wp2_with fail
        go_roundw
        case rel => exact ⟨k + 1, by first | rfl | go_num, by omega, by rw [HST.out], HB2⟩
        case measure => simp [RowKit.intOf]; omega
    · obtain rfl : k = n := by omega
      have hge : (k : Int) ≤ (k : Int) := Int.le_refl _
      rw [HN.out, List.take_length, ← HR.out]
      go_wp2
      go_ret2
      exact ⟨rfl, HB.out⟩

end Go.Proofs.YtionnohajnnfmaaDoor
