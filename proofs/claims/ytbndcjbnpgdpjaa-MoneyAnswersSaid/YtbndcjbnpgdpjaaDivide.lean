/- The contract of money.divide: it returns the parts of an amount among 1 to 200 weights. -/
import Derived.Test.YtbndcjbnpgdpjaaGreat
import Derived.Test.YtbndcjbnpgdpjaaPartsM
import Derived.BigRegion
namespace Go.Proofs.Ytbndcjbnpgdpjaa
open Go.RowKit Go.Sort Go.Shelf Go.Lib Go.Proofs

/-- A list of numbers, as Go's slice of them holds it. -/
def cellsI (l : List Int) : List Value := l.map fun x => .int .i64 x

theorem cellsI_get (l : List Int) (i : Nat) (hi : i < l.length) : (cellsI l)[i]? = some (.int .i64 (l.getD i 0)) := by
  simp [cellsI, List.getD, List.getElem?_eq_getElem hi]

/-- The first k numbers of a list, and zeros behind them. -/
def upTo (l : List Int) (k : Nat) : List Value := cellsI (l.take k) ++ List.replicate (l.length - k) (.int .i64 0)

theorem upTo_zero (l : List Int) : upTo l 0 = List.replicate l.length (.int .i64 0) := by simp [upTo, cellsI]
theorem upTo_full (l : List Int) : upTo l l.length = cellsI l := by simp [upTo]
theorem upTo_get (l : List Int) (k : Nat) (h : k < l.length) : (upTo l k)[k]? = some (.int .i64 0) := by
  unfold upTo cellsI
  have hm : min k l.length = k := Nat.min_eq_left (by omega)
  rw [List.getElem?_append_right (by simp [hm])]
  simp [List.getElem?_replicate, hm]
  omega
theorem upTo_set (l : List Int) (k : Nat) (h : k < l.length) (x : Int) (hx : x = l.getD k 0) : (upTo l k).set k (.int .i64 x) = upTo l (k + 1) := by
  subst hx
  unfold upTo cellsI
  have hm : min k l.length = k := Nat.min_eq_left (by omega)
  rw [List.take_succ_eq_append_getElem h, List.map_append, List.append_assoc, List.set_append_right _ _ (by simp [hm])]
  congr 1
  obtain ⟨q, hq⟩ : ∃ q, l.length - k = q + 1 := ⟨l.length - k - 1, by omega⟩
  rw [hq, show l.length - (k + 1) = q by omega]
  simp [List.replicate_succ, List.getElem?_eq_getElem h, hm]

theorem qs_get (T S : Int) (ws : List Int) (k : Nat) (hk : k < ws.length) : (qs T S ws).getD k 0 = T * ws.getD k 0 / S := by
  simp [qs, List.getD, List.getElem?_eq_getElem hk]
theorem rests_get (T S : Int) (ws : List Int) (k : Nat) (hk : k < ws.length) : (rests T S ws).getD k 0 = T * ws.getD k 0 % S := by
  simp [rests, List.getD, List.getElem?_eq_getElem hk]

/-- What is owned stays owned where nothing has turned that was there. -/
theorem ownsRow_below {w w' : World} {base : Nat} {e : TypeId} {size : Nat} {v : Value} {n : Nat} {xs : List Value} (h : w.ownsRow base e size v n xs) (hb : Below w.heap.size w w') : w'.ownsRow base e size v n xs := by
  obtain ⟨h1, h2⟩ := h
  refine ⟨h1, ?_⟩
  rcases h2 with h2 | ⟨g, cap, cur, hv, hg, hh, r⟩
  · exact Or.inl h2
  · have hlt : g < w.heap.size := by
      by_cases hlt : g < w.heap.size
      · exact hlt
      · rw [Array.getElem?_eq_none (by omega)] at hh; cases hh
    exact Or.inr ⟨g, cap, cur, hv, hg, by rw [hb.block g hlt]; exact hh, r⟩

theorem natCells_get (o : List Nat) (j : Nat) (hj : j < o.length) : (natCells o)[j]? = some (.int .i64 ((o[j] : Nat) : Int)) := by
  simp [natCells, List.getElem?_eq_getElem hj]

theorem cellsI_set (l : List Int) (i : Nat) (x : Int) : (cellsI l).set i (.int .i64 x) = cellsI (l.set i x) := by simp [cellsI, List.map_set]

theorem not_mem_take {o : List Nat} (h : o.Nodup) (j : Nat) (hj : j < o.length) : o[j] ∉ o.take j := by
  intro hm
  obtain ⟨i, hi, e⟩ := List.mem_take_iff_getElem.1 hm
  have := (List.getElem_inj (h₀ := by omega) (h₁ := hj) h).1 e
  omega

/-- One place more of the order. -/
theorem bumped_next {b : List Int} {o : List Nat} (h : o.Nodup) (j : Nat) (hj : j < o.length) (hp : o[j] < b.length) :
    (cellsI (bumped b (o.take j)))[o[j]]? = some (.int .i64 (b.getD o[j] 0)) ∧ (cellsI (bumped b (o.take j))).set o[j] (.int .i64 (b.getD o[j] 0 + 1)) = cellsI (bumped b (o.take (j + 1))) := by
  constructor
  · unfold cellsI
    rw [List.getElem?_map, bumped_get b _ _ hp, if_neg (not_mem_take h j hj)]
    simp
  · rw [cellsI_set, bumped_set b _ _ hp, List.take_succ_eq_append_getElem hj]

set_option maxHeartbeats 2000000 in
theorem divide_any (T S : Int) (ws : List Int) (hlen : ws.length ≤ 200) (hpos : 0 < ws.length) (bw ow cw : Nat) (w : World) (hT : 0 ≤ T) (hT1 : T ≤ 1000000000000) (hw : ∀ x ∈ ws, 0 ≤ x ∧ x ≤ 1000000) (hS : sumI ws = S) (hS0 : 0 < S) (hbw : bw < w.heap.size)
    (hc : ∀ i, i < ws.length → w.cell? ⟨bw, ow + i, none⟩ = some (.int .i64 (ws.getD i 0))) :
    Calls Try.prog 31 #[.int .i64 T, .slice (some ⟨bw, ow, none⟩) ws.length cw, .int .i64 S] w fun e w' => ∃ P, e = .returned (.slice (some ⟨P, 0, none⟩) ws.length ws.length) ∧
      w'.ownsRow w.heap.size 3 1 (.slice (some ⟨P, 0, none⟩) ws.length ws.length) ws.length (cellsI (partsI T S ws)) ∧ Below w.heap.size w w' := by
  obtain ⟨i0, hi, hz0, hz1, hz2⟩ := info_parts Try.infoInt
  obtain ⟨n, hn⟩ : ∃ n, n = ws.length := ⟨_, rfl⟩
  have hn20 : n ≤ 200 := by omega
  have hn0 : 0 < n := by omega
  have hS1 : 1 ≤ S := by omega
  have hwd : ∀ i, i < n → 0 ≤ ws.getD i 0 ∧ ws.getD i 0 ≤ 1000000 := fun i h => by
    have h' : i < ws.length := by omega
    have e : ws.getD i 0 = ws[i] := by simp [List.getD, List.getElem?_eq_getElem h']
    rw [e]; exact hw _ (List.getElem_mem h')
  have hpre := left_prefix hT hS0 (fun x hx => (hw x hx).1) hS
  have hql : (qs T S ws).length = n := by simp [qs, hn]
  have hrl : (rests T S ws).length = n := by simp [rests, hn]
  have HN := Lib.hid hn
  have hcc : ∀ i, i < n → w.cell? ⟨bw, ow + i, none⟩ = some (.int .i64 (ws.getD i 0)) := fun i h => hc i (by omega)
  have HC := Lib.hid hcc
  have HWD := Lib.hid hwd
  have HPRE := Lib.hid hpre
  have HQL := Lib.hid hql
  have HRL := Lib.hid hrl
  have HS := Lib.hid hS
  have HW := Lib.hid hw
  rw [← hn]
  clear hc hcc hn hlen hpos hwd hpre hql hrl hS hw
  go_enter Try.func31, Try.ntmps31
  go_wp2_with (first | (at_make; refine wpList_make_full _ rfl _ _ 22 rfl w.heap.size 3 i0 (.int .i64 0) 1 Try.underlying22 hi hz0 hz1 .i64 .i64 _ _ n rfl rfl rfl rfl (by rw [hz2]; omega) (by unfold maxLen; omega) (Nat.le_refl _) ?_; intro w1 hown1 hgrow1; have hsz1 : w.heap.size < w1.heap.size := (hown1.lt _ rfl).2) | (at_make; refine wpList_make_full _ rfl _ _ 22 rfl (w.heap.size + 1) 3 i0 (.int .i64 0) 1 Try.underlying22 hi hz0 hz1 .i64 .i64 _ _ n rfl rfl rfl rfl (by rw [hz2]; omega) (by unfold maxLen; omega) hsz1 ?_; intro w2 hown2 hgrow2))
  have hbel : Below w.heap.size w w2 := ((Below.refl _ _).grown hgrow1 (Nat.le_refl _) (by simp)).grown hgrow2 (by omega) (by simp)
  have hown1' := hown1.kept hgrow2 (Or.inr (by simp [Value.ownBlock]))
  have hown2' := ownsRow_mono (base' := w.heap.size) hown2 (by omega)
  rw [show (madeCells (Value.int .i64 0).cells (n * 1)).toList = upTo (qs T S ws) 0 from by rw [upTo_zero, HQL.out, Nat.mul_one]; exact toList_madeCells_one _ _] at hown1'
  rw [show (madeCells (Value.int .i64 0).cells (n * 1)).toList = upTo (rests T S ws) 0 from by rw [upTo_zero, HRL.out, Nat.mul_one]; exact toList_madeCells_one _ _] at hown2'
  clear hown1 hown2 hgrow1 hgrow2
  generalize w1.heap.size = P2 at *
  clear w1
  go_loopw [9, 23] (fun l c wr => ∃ k : Nat, k ≤ n ∧ c = .int .i64 k ∧ l = .int .i64 (T - sumI ((qs T S ws).take k)) ∧ wr.ownsRow w.heap.size 3 1 (.slice (some ⟨w.heap.size, 0, none⟩) n n) n (upTo (qs T S ws) k) ∧
      wr.ownsRow w.heap.size 3 1 (.slice (some ⟨P2, 0, none⟩) n n) n (upTo (rests T S ws) k) ∧ Below w.heap.size w wr) (fun _ c _ => n - (intOf c).toNat)
  case atStart => exact ⟨0, Nat.zero_le _, rfl, by simp [sumI], hown1', hown2', hbel⟩
  case round =>
    clear hown1' hown2' hbel
    obtain ⟨k, hk, rfl, rfl, hown1, hown2, hbel⟩ := hrel
    by_cases hlt : k < n
    · obtain ⟨x, hx⟩ : ∃ x, x = ws.getD k 0 := ⟨_, rfl⟩
      have hw0 := HWD.out k hlt
      have hcw : wr.cell? ⟨bw, ow + k, none⟩ = some (.int .i64 x) := by rw [hbel.cell (by exact hbw), hx]; exact HC.out k hlt
      rw [← hx] at hw0
      obtain ⟨hx0, hx1⟩ := hw0
      have hp0 : 0 ≤ T * x := Int.mul_nonneg hT hx0
      have hp1 : T * x ≤ 1000000000000 * 1000000 := Int.mul_le_mul hT1 hx1 hx0 (by omega)
      have hcell1 : wr.cell? ⟨w.heap.size, k, none⟩ = some (.int .i64 0) := by rw [hown1.cellAt k (by omega), upTo_get _ k (by rw [HQL.out]; exact hlt)]
      have hfr1 : wr.frozen? ⟨w.heap.size, k, none⟩ = false := hown1.frozenAt k
      have hcell2 : wr.cell? ⟨P2, k, none⟩ = some (.int .i64 0) := by rw [hown2.cellAt k (by omega), upTo_get _ k (by rw [HRL.out]; exact hlt)]
      have hfr2 : wr.frozen? ⟨P2, k, none⟩ = false := hown2.frozenAt k
      obtain ⟨hl0, hl1⟩ := HPRE.out k
      have hq0 : 0 ≤ T * x / S := Int.ediv_nonneg hp0 (by omega)
      have hq1 : T * x / S ≤ T * x := Int.ediv_le_self _ hp0
      have HX := Lib.hid hx
      clear hx
      have hne : w.heap.size ≠ P2 := by omega
      have hne' : P2 ≠ w.heap.size := by omega
      go_wp2
      go_big_region
      all_goals go_wp2
      go_roundw
      case rel =>
        obtain ⟨h1, g1⟩ := hown1.stored k (.int .i64 (T * x / S))
        have h2 := hown2.kept g1 (Or.inr (by simp [Value.ownBlock]; omega))
        obtain ⟨h3, g3⟩ := h2.stored k (.int .i64 (T * x % S))
        have h4 := h1.kept g3 (Or.inr (by simp [Value.ownBlock]; omega))
        rw [upTo_set _ _ (by rw [HQL.out]; exact hlt) _ (by rw [qs_get T S ws k (by rw [← HN.out]; exact hlt), HX.out])] at h4
        rw [upTo_set _ _ (by rw [HRL.out]; exact hlt) _ (by rw [rests_get T S ws k (by rw [← HN.out]; exact hlt), HX.out])] at h3
        refine ⟨k + 1, by omega, by go_num, ?_, h4.drew, h3.drew, ((hbel.grown g1 hbel.size (by simp)).grown g3 (Nat.le_trans hbel.size g1.size) (by simp; omega)).drew⟩
        rw [sumI_take_succ _ k (by rw [HQL.out]; exact hlt), qs_get T S ws k (by rw [← HN.out]; exact hlt), ← HX.out]
        go_num
      case measure => simp [intOf]; omega
    · obtain rfl : k = n := by omega
      have hlo : T - sumI ((qs T S ws).take k) = leftOver T S ws := by
        rw [List.take_of_length_le (by rw [HQL.out]; exact Nat.le_refl _)]; rfl
      have hn1 := left_nonneg (T := T) hS0 HS.out
      have hn2 := left_le (T := T) hS0 HS.out
      obtain ⟨l, hl⟩ : ∃ l : Nat, leftOver T S ws = l := ⟨(leftOver T S ws).toNat, by omega⟩
      have hlk : l ≤ k := by have := HN.out; omega
      rw [hlo, hl]
      have HL := Lib.hid hl
      have e1 : upTo (qs T S ws) k = cellsI (qs T S ws) := by rw [← HQL.out]; exact upTo_full _
      have e2 : upTo (rests T S ws) k = cellsI (rests T S ws) := by rw [← HRL.out]; exact upTo_full _
      rw [e1] at hown1
      rw [e2] at hown2
      have hcon : Calls Try.prog 33 #[.slice (some ⟨P2, 0, none⟩) k k] wr fun e w' => ∃ P o, e = .returned (.slice (some ⟨P, 0, none⟩) k k) ∧ IsOrder (rests T S ws) o ∧
          w'.ownsRow wr.heap.size 3 1 (.slice (some ⟨P, 0, none⟩) k k) k (natCells o) ∧ Below wr.heap.size wr w' := by
        have := greatestFirst_any (rests T S ws) (k - 1) (by rw [HRL.out]; omega) (by rw [HRL.out]; exact hn20) P2 k wr (hown2.lt _ rfl).2 (fun i hi => by rw [hown2.cellAt i (by rw [HRL.out] at hi; omega), cellsI_get _ i hi])
        rw [HRL.out] at this
        exact this
      have HCON := Lib.hid hcon
      clear hcon hlo hl hn1 hn2 e1 e2 hown2
      go_wp2_with (go_at_call 33; refine (HCON.out).mono ?_; rintro e w' ⟨Pg, o, rfl, ho, hog, hbg⟩)
      have hown1' := ownsRow_below hown1 hbg
      have hbel' : Below w.heap.size w w' := hbel.trans (hbg.mono hbel.size)
      have hPg : wr.heap.size ≤ Pg := (hog.lt _ rfl).1
      have hP1 : w.heap.size < wr.heap.size := (hown1.lt _ rfl).2
      rw [← bumped_nil (qs T S ws), show ([] : List Nat) = o.take 0 from rfl] at hown1'
      have hok : o.length = k := by rw [ho.length, HRL.out]
      have HOK := Lib.hid hok
      have HO := Lib.hid ho
      clear hown1 hbg hbel hok ho HCON
      generalize wr.heap.size = Q at *
      clear wr
      go_loopw [56] (fun c wr => ∃ j : Nat, j ≤ l ∧ c = .int .i64 j ∧ wr.ownsRow w.heap.size 3 1 (.slice (some ⟨w.heap.size, 0, none⟩) k k) k (cellsI (bumped (qs T S ws) (o.take j))) ∧
          wr.ownsRow Q 3 1 (.slice (some ⟨Pg, 0, none⟩) k k) k (natCells o) ∧ Below w.heap.size w wr) (fun c _ => l - (intOf c).toNat)
      case atStart => exact ⟨0, Nat.zero_le _, rfl, hown1', hog, hbel'⟩
      case round =>
        clear hown1' hog hbel'
        obtain ⟨j, hj, rfl, hown1, hog, hbel⟩ := hrel
        by_cases hlt : j < l
        · have hjo : j < o.length := by have := HOK.out; omega
          obtain ⟨p, hp⟩ : ∃ p, p = o[j] := ⟨_, rfl⟩
          have hpk : p < k := by have := HO.out.lt j hjo; rw [HRL.out, ← hp] at this; exact this
          obtain ⟨hb1, hb2⟩ := bumped_next (b := qs T S ws) HO.out.nodup j hjo (by rw [HQL.out, ← hp]; exact hpk)
          rw [← hp] at hb1 hb2
          have hy := qs_get T S ws p (by have := HN.out; omega)
          have hw0 := HWD.out p hpk
          obtain ⟨y, hy'⟩ : ∃ y, y = (qs T S ws).getD p 0 := ⟨_, rfl⟩
          rw [← hy'] at hb1 hb2 hy
          have hy0 : 0 ≤ y := by rw [hy]; exact Int.ediv_nonneg (Int.mul_nonneg hT hw0.1) (by omega)
          have hy1 : y ≤ 1000000000000 * 1000000 := by
            rw [hy]
            exact Int.le_trans (Int.ediv_le_self _ (Int.mul_nonneg hT hw0.1)) (Int.mul_le_mul hT1 hw0.2 hw0.1 (by omega))
          have hcg : wr.cell? ⟨Pg, j, none⟩ = some (.int .i64 (p : Int)) := by rw [hog.cellAt j (by omega), natCells_get o j hjo, hp]
          have hcell1 : wr.cell? ⟨w.heap.size, p, none⟩ = some (.int .i64 y) := by rw [hown1.cellAt p (by omega), hb1]
          have hfr1 : wr.frozen? ⟨w.heap.size, p, none⟩ = false := hown1.frozenAt p
          have HB2 := Lib.hid hb2
          clear hp hb1 hb2 hy hy' hw0
          go_wp2
          go_roundw
          case rel =>
            obtain ⟨h1, g1⟩ := hown1.stored p (.int .i64 (y + 1))
            rw [HB2.out] at h1
            exact ⟨j + 1, by omega, by go_num, h1, hog.kept g1 (Or.inr (by simp [Value.ownBlock]; omega)), hbel.grown g1 hbel.size (by simp)⟩
          case measure => simp [intOf]; omega
        · obtain rfl : j = l := by omega
          have hfin : cellsI (bumped (qs T S ws) (o.take j)) = cellsI (partsI T S ws) := by
            rw [← bumped_order HO.out, HL.out]; rfl
          have HF := Lib.hid hfin
          clear hfin
          go_wp2
          go_ret
          exact ⟨_, rfl, by rw [← HF.out]; exact hown1, hbel⟩

end Go.Proofs.Ytbndcjbnpgdpjaa
