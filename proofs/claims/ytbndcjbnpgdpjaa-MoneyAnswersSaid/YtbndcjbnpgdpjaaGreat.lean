/- The contract of money.greatestFirst: it returns the places of the rests in their order; for 1 to 200 rests. -/
import Derived.Test.YtbndcjbnpgdpjaaPlaces
import Derived.Laws.OwnMore
namespace Go.Proofs.Ytbndcjbnpgdpjaa
open Go.RowKit Go.Sort Go.Shelf Go.Lib Go.Proofs

theorem Try.infoInt : (Try.prog.info? 3).map (fun i => (i.zero, i.size, i.bytes)) = some (some (.int .i64 0), 1, 8) := by kernel_rfl

/-- The places 0 .. k-1, and zeros behind them. -/
def filling (n k : Nat) : List Value := natCells (List.range k) ++ List.replicate (n - k) (.int .i64 0)

theorem filling_zero (n : Nat) : filling n 0 = List.replicate n (.int .i64 0) := by unfold filling natCells; simp
theorem filling_full (n : Nat) : filling n n = natCells (List.range n) := by unfold filling; simp
theorem filling_set (n k : Nat) (h : k < n) : (filling n k).set k (.int .i64 (k : Int)) = filling n (k + 1) := by
  unfold filling natCells
  rw [List.range_succ, List.map_append, List.append_assoc]
  rw [List.set_append_right _ _ (by simp)]
  congr 1
  obtain ⟨q, hq⟩ : ∃ q, n - k = q + 1 := ⟨n - k - 1, by omega⟩
  rw [hq, show n - (k + 1) = q by omega]
  simp [List.replicate_succ]

theorem filling_get (n k : Nat) (h : k < n) : (filling n k)[k]? = some (.int .i64 0) := by
  unfold filling natCells
  rw [List.getElem?_append_right (by simp)]
  simp [List.getElem?_replicate]
  omega

theorem ownsRow_mono {w : World} {base base' : Nat} {e : TypeId} {size : Nat} {v : Value} {n : Nat} {xs : List Value} (h : w.ownsRow base e size v n xs) (hb : base' ≤ base) : w.ownsRow base' e size v n xs := by
  obtain ⟨h1, h2⟩ := h
  refine ⟨h1, ?_⟩
  rcases h2 with h2 | ⟨g, cap, cur, hv, hg, r⟩
  · exact Or.inl h2
  · exact Or.inr ⟨g, cap, cur, hv, by omega, r⟩

set_option maxHeartbeats 1000000 in
theorem greatestFirst_any (rs : List Int) (m : Nat) (hl : rs.length = m + 1) (hm : rs.length ≤ 200) (bk cap : Nat) (w : World) (hkb : bk < w.heap.size)
    (hc : ∀ i, i < rs.length → w.cell? ⟨bk, i, none⟩ = some (.int .i64 (rs.getD i 0))) :
    Calls Try.prog 33 #[.slice (some ⟨bk, 0, none⟩) rs.length cap] w fun e w' => ∃ P o, e = .returned (.slice (some ⟨P, 0, none⟩) rs.length rs.length) ∧ IsOrder rs o ∧
      w'.ownsRow w.heap.size 3 1 (.slice (some ⟨P, 0, none⟩) rs.length rs.length) rs.length (natCells o) ∧ Below w.heap.size w w' := by
  obtain ⟨i0, hi, hz0, hz1, hz2⟩ := info_parts Try.infoInt
  obtain ⟨n, hn⟩ : ∃ n, n = rs.length := ⟨_, rfl⟩
  have hn20 : n ≤ 200 := by omega
  have hn0 : 0 < n := by omega
  have HN := Lib.hid hn
  have hcc : ∀ i, i < n → w.cell? ⟨bk, i, none⟩ = some (.int .i64 (rs.getD i 0)) := fun i h => hc i (by omega)
  have HC := Lib.hid hcc
  rw [← hn]
  clear hc hcc hn hl hm
  go_enter Try.func33, Try.ntmps33
  go_wp2_with (at_make; refine wpList_make_full _ rfl _ _ 22 rfl (w.heap.size + 1) 3 i0 (.int .i64 0) 1 Try.underlying22 hi hz0 hz1 .i64 .i64 _ _ n rfl rfl rfl rfl (by rw [hz2]; omega) (by unfold maxLen; omega) (by simp) ?_; intro w1 hown hgrow)
  have hbox : w1.cell? ⟨w.heap.size, 0, none⟩ = some (.slice (some ⟨bk, 0, none⟩) n cap) := by
    rw [World.cell?_of_block (w := w.alloc (.cells #[.slice (some ⟨bk, 0, none⟩) n cap] 22)) (hgrow.block w.heap.size (by simp) (by simp))]
    simp
  have hbel : Below w.heap.size w w1 := ((Below.refl _ _).alloc (Nat.le_refl _) _).grown hgrow (by simp) (by simp)
  rw [show (madeCells (Value.int .i64 0).cells (n * 1)).toList = filling n 0 from by rw [filling_zero, Nat.mul_one]; exact toList_madeCells_one _ _, show (w.alloc (.cells #[.slice (some ⟨bk, 0, none⟩) n cap] 22)).heap.size = w.heap.size + 1 from by simp] at hown
  clear hgrow
  go_loopw [10] (fun c wr => ∃ k : Nat, k ≤ n ∧ c = .int .i64 k ∧ wr.ownsRow (w.heap.size + 1) 3 1 (.slice (some ⟨w.heap.size + 1, 0, none⟩) n n) n (filling n k) ∧ wr.cell? ⟨w.heap.size, 0, none⟩ = some (.slice (some ⟨bk, 0, none⟩) n cap) ∧ Below w.heap.size w wr) (fun c _ => n - (intOf c).toNat)
  case atStart => exact ⟨0, Nat.zero_le _, rfl, hown, hbox, hbel⟩
  case round =>
    clear hown hbox hbel
    obtain ⟨k, hk, rfl, hown, hbox, hbel⟩ := hrel
    by_cases hlt : k < n
    · have hcell : wr.cell? ⟨w.heap.size + 1, k, none⟩ = some (.int .i64 0) := by rw [hown.cellAt k (by omega), filling_get n k hlt]
      have hfr : wr.frozen? ⟨w.heap.size + 1, k, none⟩ = false := hown.frozenAt k
      go_wp2
      go_roundw
      case rel =>
        obtain ⟨h1, h2⟩ := hown.stored k (.int .i64 (k : Int))
        rw [filling_set n k hlt] at h1
        exact ⟨k + 1, by omega, by go_num, h1, by rw [World.cell?_of_block (w := wr) (h2.block w.heap.size (by have : w.heap.size + 1 < wr.heap.size := (hown.lt _ rfl).2; omega) (by simp))]; exact hbox, hbel.grown h2 hbel.size (by simp)⟩
      case measure => simp [intOf]; omega
    · obtain rfl : k = n := by omega
      rw [filling_full] at hown
      have hcon : Calls Try.prog 34 #[.slice (some ⟨w.heap.size + 1, 0, none⟩) k k, .func (.func 35) #[] #[.pointer (some ⟨w.heap.size, 0, none⟩)]] wr fun e w' => e = .returned (.tuple #[]) ∧ ∃ o, IsOrder rs o ∧ w'.ownsRow (w.heap.size + 1) 3 1 (.slice (some ⟨w.heap.size + 1, 0, none⟩) k k) k (natCells o) ∧ wr.grownBy w' (some (w.heap.size + 1)) := by
        rw [HN.out] at hown hbox hn20 ⊢
        exact sort_places rs (rs.length - 1) (by have := HN.out; omega) (by omega) w.heap.size bk cap (w.heap.size + 1) (w.heap.size + 1) wr (by omega) (by omega) hbox (fun i hi => by rw [hbel.cell (by exact hkb)]; exact HC.out i (by rw [HN.out]; exact hi)) hown
      have HCON := Lib.hid hcon
      clear hcon hown hbox
      go_wp2_with (go_at_call 34; refine (HCON.out).mono ?_; rintro e w' ⟨rfl, o, ho, hown, hgrow⟩)
      go_ret
      exact ⟨_, o, rfl, ho, ownsRow_mono hown (by omega), hbel.grown hgrow hbel.size (by simp)⟩

end Go.Proofs.Ytbndcjbnpgdpjaa
