/- Contracts of the account's reference's Subs and Entries: whether two lists are equal. -/
import Derived.Test.YtoelidndnajedaaAcC
namespace Go.Proofs.Ytoelidndnajedaa
open Go.RowKit Go.Lib Go.Proofs

theorem SubsAt.shape {w : World} {v : Value} {l : List SubA} (h : SubsAt w v l) : ∃ ao cap, v = .slice ao l.length cap ∧ l.length ≤ cap ∧ (0 < l.length → ∃ b o, ao = some ⟨b, o, none⟩ ∧ b < w.heap.size ∧ ∀ i, i < l.length → w.cell? ⟨b, o + i * 2, none⟩ = some (.int .i64 (subAt l i).id) ∧ w.cell? ⟨b, o + i * 2 + 1, none⟩ = some (.int .i64 (subAt l i).bal)) := by
  rcases h.open with ⟨rfl, ao, cap, rfl⟩ | ⟨_, b, o, cap, rfl, hcap, hb, hc⟩
  · exact ⟨ao, cap, rfl, Nat.zero_le _, fun h => by simp at h⟩
  · exact ⟨_, cap, rfl, hcap, fun _ => ⟨b, o, rfl, hb, hc⟩⟩

def sameN : List Ent → List Ent → Bool
  | [], [] => true
  | s :: l, t :: m => (decide (s.number = t.number) && (decide (s.day = t.day) && (decide (s.frm = t.frm) && (decide (s.to = t.to) && (decide (s.amount = t.amount) && decide (s.ref = t.ref)))))) && sameN l m
  | _, _ => false
theorem sameN_eq : ∀ {l m : List Ent}, sameN l m = true ↔ l = m
  | [], [] => by simp [sameN]
  | [], _ :: _ => by simp [sameN]
  | _ :: _, [] => by simp [sameN]
  | ⟨a, b, c, d, e, f⟩ :: l, ⟨a', b', c', d', e', f'⟩ :: m => by
    simp [sameN, sameN_eq (l := l) (m := m)]
theorem ents_eq {l m : List Ent} (hl : l.length = m.length) (h : ∀ j, j < m.length → entAt l j = entAt m j) : l = m := by
  apply List.ext_getElem hl
  intro i h1 h2
  have := h i h2
  rwa [entAt_get h1, entAt_get h2] at this

theorem ent_neq_same (a b c d e f : Int) (W : World) : (binOp .neq 38 (.agg #[.int .i64 a, .int .i64 b, .int .i64 c, .int .i64 d, .int .i64 e, .int .i64 f]) (.agg #[.int .i64 a, .int .i64 b, .int .i64 c, .int .i64 d, .int .i64 e, .int .i64 f])).run Try.prog W = .ok (.bool false) W := by
  rw [run_neq_struct]
  simp [go_sem]
theorem ent_neq_differ (a b c d e f a' b' c' d' e' f' : Int) (h : ¬ (a = a' ∧ b = b' ∧ c = c' ∧ d = d' ∧ e = e' ∧ f = f')) (W : World) : (binOp .neq 38 (.agg #[.int .i64 a, .int .i64 b, .int .i64 c, .int .i64 d, .int .i64 e, .int .i64 f]) (.agg #[.int .i64 a', .int .i64 b', .int .i64 c', .int .i64 d', .int .i64 e', .int .i64 f'])).run Try.prog W = .ok (.bool true) W := by
  rw [run_neq_struct]
  by_cases h1 : a = a'
  · by_cases h2 : b = b'
    · by_cases h3 : c = c'
      · by_cases h4 : d = d'
        · by_cases h5 : e = e'
          · have h6 : (f == f') = false := by rw [beq_eq_false_iff_ne]; exact fun g => h ⟨h1, h2, h3, h4, h5, g⟩
            subst h1 h2 h3 h4 h5
            simp [go_sem, h6]
          · have h6 : (e == e') = false := by rw [beq_eq_false_iff_ne]; exact h5
            subst h1 h2 h3 h4
            simp [go_sem, h6]
        · have h6 : (d == d') = false := by rw [beq_eq_false_iff_ne]; exact h4
          subst h1 h2 h3
          simp [go_sem, h6]
      · have h6 : (c == c') = false := by rw [beq_eq_false_iff_ne]; exact h3
        subst h1 h2
        simp [go_sem, h6]
    · have h6 : (b == b') = false := by rw [beq_eq_false_iff_ne]; exact h2
      subst h1
      simp [go_sem, h6]
  · have h6 : (a == a') = false := by rw [beq_eq_false_iff_ne]; exact h1
    simp [go_sem, h6]

set_option maxRecDepth 100000 in
set_option maxHeartbeats 4000000 in
theorem raSubs_any (v v2 : Value) (l m : List SubA) (w : World) (h : SubsAt w v l) (h2 : SubsAt w v2 m) (hlen : l.length ≤ 1000000) (hlen2 : m.length ≤ 1000000) :
    Calls Try.prog 39 #[v, v2] w fun e w' => e = .returned (.bool (sameL l m)) ∧ Below w.heap.size w w' := by
  obtain ⟨r, hr⟩ : ∃ r, r = sameL l m := ⟨_, rfl⟩
  have HR := Lib.hid hr
  rw [← hr]
  clear hr
  obtain ⟨ao, cap, rfl, hcap, hcells⟩ := h.shape
  obtain ⟨ao2, cap2, rfl, hcap2, hcells2⟩ := h2.shape
  have HC := Lib.hid hcells
  have HC2 := Lib.hid hcells2
  clear hcells hcells2 h h2
  by_cases hn : l.length = m.length
  case neg =>
    obtain rfl : r = false := by
      rw [HR.out]
      cases hq : sameL l m with
      | false => rfl
      | true => exact absurd (congrArg List.length (sameL_eq.1 hq)) hn
    obtain ⟨n1, hn1⟩ : ∃ n1, n1 = l.length := ⟨_, rfl⟩
    obtain ⟨n2, hn2⟩ : ∃ n2, n2 = m.length := ⟨_, rfl⟩
    have hne : ((n1 : Int) == (n2 : Int)) = false := by rw [beq_eq_false_iff_ne, hn1, hn2]; omega
    have hne2 : ((n1 : Int) != (n2 : Int)) = true := by rw [bne, hne]; rfl
    rw [← hn1, ← hn2]
    rw [← hn1] at hcap hlen
    rw [← hn2] at hcap2 hlen2
    clear hn hn1 hn2
    go_enter Try.func39, Try.ntmps39
    go_wp2
    go_ret
    exact ⟨rfl, Below.refl _ _⟩
  obtain ⟨n, hnn⟩ : ∃ n, n = l.length := ⟨_, rfl⟩
  have HN := Lib.hid hnn
  have HM : Hid (n = m.length) := Lib.hid (hnn.trans hn)
  rw [← hnn] at hcap hlen
  rw [← hn, ← hnn] at hcap2
  rw [← hn, ← hnn]
  clear hn hnn hlen2
  go_enter Try.func39, Try.ntmps39
  go_wp2
  go_loopw [13] (fun i wr => ∃ k : Nat, i = .int .i64 k ∧ k ≤ n ∧ Hid (∀ j, j < k → subAt l j = subAt m j) ∧ Hid (Below w.heap.size w wr)) (fun i _ => n - (RowKit.intOf i).toNat)
  case atStart => exact ⟨0, rfl, by omega, Lib.hid (fun j hj => by omega), Lib.hid (Below.refl _ _)⟩
  case round =>
    obtain ⟨k, rfl, hkn, HF, HB⟩ := hrel
    by_cases hlt : k < n
    · have hkl : k < l.length := by rw [← HN.out]; exact hlt
      have hkm : k < m.length := by rw [← HM.out]; exact hlt
      obtain ⟨b, o, rfl, hb, hc⟩ := HC.out (by omega)
      obtain ⟨b2, o2, rfl, hb2, hc2⟩ := HC2.out (by omega)
      have c0 : wr.cell? ⟨b, o + k * 2, none⟩ = some (.int .i64 (subAt l k).id) := (HB.out.cell (p := ⟨b, o + k * 2, none⟩) hb).trans (hc k hkl).1
      have c1 : wr.cell? ⟨b, o + k * 2 + 1, none⟩ = some (.int .i64 (subAt l k).bal) := (HB.out.cell (p := ⟨b, o + k * 2 + 1, none⟩) hb).trans (hc k hkl).2
      have d0 : wr.cell? ⟨b2, o2 + k * 2, none⟩ = some (.int .i64 (subAt m k).id) := (HB.out.cell (p := ⟨b2, o2 + k * 2, none⟩) hb2).trans (hc2 k hkm).1
      have d1 : wr.cell? ⟨b2, o2 + k * 2 + 1, none⟩ = some (.int .i64 (subAt m k).bal) := (HB.out.cell (p := ⟨b2, o2 + k * 2 + 1, none⟩) hb2).trans (hc2 k hkm).2
      have hk0 : (0 : Int) ≤ (k : Int) := by omega
      have hk1 : (k : Int) < (n : Int) := by omega
      have HDF : Hid (subAt l k ≠ subAt m k → r = false) := Lib.hid fun hd => by
        rw [HR.out]
        cases hq : sameL l m with
        | false => rfl
        | true => rw [sameL_eq.1 hq] at hd; exact absurd rfl hd
      have HEQ : Hid (subAt l k = subAt m k → ∀ p, p < k + 1 → subAt l p = subAt m p) := Lib.hid fun hd p hp => by
        rcases (by omega : p < k ∨ p = k) with hp | rfl
        · exact HF.out p hp
        · exact hd
      generalize subAt l k = x at *
      generalize subAt m k = y at *
      obtain ⟨x0, x1⟩ := x
      obtain ⟨y0, y1⟩ := y
      simp only at c0 c1 d0 d1
      clear hc hc2 HC HC2
      by_cases heq : x0 = y0 ∧ x1 = y1
      · obtain ⟨rfl, rfl⟩ := heq
        have HF2 := Lib.hid (HEQ.out rfl)
        have hne := fun W => sub_neq_same x0 x1 W
        go_wp2
        go_quiet (fail)
        go_wp2
        go_roundw
        case rel => exact ⟨k + 1, by first | rfl | go_num, by omega, HF2, Lib.hid (below_drewN HB.out _)⟩
        case measure => simp [RowKit.intOf]; omega
      · have hne := fun W => sub_neq_differ x0 x1 y0 y1 heq W
        obtain rfl : r = false := HDF.out (fun e => heq (by injection e with e0 e1; exact ⟨e0, e1⟩))
        clear heq
        go_wp2
        go_quiet (fail)
        go_wp2
        go_ret
        exact ⟨rfl, below_drewN HB.out _⟩
    · obtain rfl : k = n := by omega
      obtain rfl : r = true := HR.out.trans (sameL_eq.2 (subs_eq (HN.out.symm.trans HM.out) (fun p hp => HF.out p (by rw [HM.out]; exact hp))))
      go_wp2
      go_ret
      exact ⟨rfl, HB.out⟩

set_option maxRecDepth 100000 in
set_option maxHeartbeats 4000000 in
theorem raEntries_any (v v2 : Value) (l m : List Ent) (w : World) (h : EntsAt w v l) (h2 : EntsAt w v2 m) (hlen : l.length ≤ 1000000) (hlen2 : m.length ≤ 1000000) :
    Calls Try.prog 48 #[v, v2] w fun e w' => e = .returned (.bool (sameN l m)) ∧ Below w.heap.size w w' := by
  obtain ⟨r, hr⟩ : ∃ r, r = sameN l m := ⟨_, rfl⟩
  have HR := Lib.hid hr
  rw [← hr]
  clear hr
  obtain ⟨ao, cap, rfl, hcap, hcells⟩ := h.shape
  obtain ⟨ao2, cap2, rfl, hcap2, hcells2⟩ := h2.shape
  have HC := Lib.hid hcells
  have HC2 := Lib.hid hcells2
  clear hcells hcells2 h h2
  by_cases hn : l.length = m.length
  case neg =>
    obtain rfl : r = false := by
      rw [HR.out]
      cases hq : sameN l m with
      | false => rfl
      | true => exact absurd (congrArg List.length (sameN_eq.1 hq)) hn
    obtain ⟨n1, hn1⟩ : ∃ n1, n1 = l.length := ⟨_, rfl⟩
    obtain ⟨n2, hn2⟩ : ∃ n2, n2 = m.length := ⟨_, rfl⟩
    have hne : ((n1 : Int) == (n2 : Int)) = false := by rw [beq_eq_false_iff_ne, hn1, hn2]; omega
    have hne2 : ((n1 : Int) != (n2 : Int)) = true := by rw [bne, hne]; rfl
    rw [← hn1, ← hn2]
    rw [← hn1] at hcap hlen
    rw [← hn2] at hcap2 hlen2
    clear hn hn1 hn2
    go_enter Try.func48, Try.ntmps48
    go_wp2
    go_ret
    exact ⟨rfl, Below.refl _ _⟩
  obtain ⟨n, hnn⟩ : ∃ n, n = l.length := ⟨_, rfl⟩
  have HN := Lib.hid hnn
  have HM : Hid (n = m.length) := Lib.hid (hnn.trans hn)
  rw [← hnn] at hcap hlen
  rw [← hn, ← hnn] at hcap2
  rw [← hn, ← hnn]
  clear hn hnn hlen2
  go_enter Try.func48, Try.ntmps48
  go_wp2
  go_loopw [13] (fun i wr => ∃ k : Nat, i = .int .i64 k ∧ k ≤ n ∧ Hid (∀ j, j < k → entAt l j = entAt m j) ∧ Hid (Below w.heap.size w wr)) (fun i _ => n - (RowKit.intOf i).toNat)
  case atStart => exact ⟨0, rfl, by omega, Lib.hid (fun j hj => by omega), Lib.hid (Below.refl _ _)⟩
  case round =>
    obtain ⟨k, rfl, hkn, HF, HB⟩ := hrel
    by_cases hlt : k < n
    · have hkl : k < l.length := by rw [← HN.out]; exact hlt
      have hkm : k < m.length := by rw [← HM.out]; exact hlt
      obtain ⟨b, o, rfl, hb, hc⟩ := HC.out (by omega)
      obtain ⟨b2, o2, rfl, hb2, hc2⟩ := HC2.out (by omega)
      have hbk := fun j (hj : j < 6) => (HB.out.cell (p := ⟨b, o + k * 6 + j, none⟩) hb).trans (hc k hkl j hj)
      have hbk2 := fun j (hj : j < 6) => (HB.out.cell (p := ⟨b2, o2 + k * 6 + j, none⟩) hb2).trans (hc2 k hkm j hj)
      have hk0 : (0 : Int) ≤ (k : Int) := by omega
      have hk1 : (k : Int) < (n : Int) := by omega
      have HDF : Hid (entAt l k ≠ entAt m k → r = false) := Lib.hid fun hd => by
        rw [HR.out]
        cases hq : sameN l m with
        | false => rfl
        | true => rw [sameN_eq.1 hq] at hd; exact absurd rfl hd
      have HEQ : Hid (entAt l k = entAt m k → ∀ p, p < k + 1 → entAt l p = entAt m p) := Lib.hid fun hd p hp => by
        rcases (by omega : p < k ∨ p = k) with hp | rfl
        · exact HF.out p hp
        · exact hd
      generalize entAt l k = x at *
      generalize entAt m k = y at *
      obtain ⟨x0, x1, x2, x3, x4, x5⟩ := x
      obtain ⟨y0, y1, y2, y3, y4, y5⟩ := y
      have c0 := hbk 0 (by omega)
      have d0 := hbk2 0 (by omega)
      have c1 := hbk 1 (by omega)
      have d1 := hbk2 1 (by omega)
      have c2 := hbk 2 (by omega)
      have d2 := hbk2 2 (by omega)
      have c3 := hbk 3 (by omega)
      have d3 := hbk2 3 (by omega)
      have c4 := hbk 4 (by omega)
      have d4 := hbk2 4 (by omega)
      have c5 := hbk 5 (by omega)
      have d5 := hbk2 5 (by omega)
      simp [Ent.cells] at c0 d0 c1 d1 c2 d2 c3 d3 c4 d4 c5 d5
      clear hbk hbk2
      clear hc hc2 HC HC2
      by_cases heq : x0 = y0 ∧ x1 = y1 ∧ x2 = y2 ∧ x3 = y3 ∧ x4 = y4 ∧ x5 = y5
      · obtain ⟨rfl, rfl, rfl, rfl, rfl, rfl⟩ := heq
        have HF2 := Lib.hid (HEQ.out rfl)
        have hne := fun W => ent_neq_same x0 x1 x2 x3 x4 x5 W
        go_wp2
        go_quiet (fail)
        go_wp2
        go_roundw
        case rel => exact ⟨k + 1, by first | rfl | go_num, by omega, HF2, Lib.hid (below_drewN HB.out _)⟩
        case measure => simp [RowKit.intOf]; omega
      · have hne := fun W => ent_neq_differ x0 x1 x2 x3 x4 x5 y0 y1 y2 y3 y4 y5 heq W
        obtain rfl : r = false := HDF.out (fun e => heq (by injection e with e0 e1 e2 e3 e4 e5; exact ⟨e0, e1, e2, e3, e4, e5⟩))
        clear heq
        go_wp2
        go_quiet (fail)
        go_wp2
        go_ret
        exact ⟨rfl, below_drewN HB.out _⟩
    · obtain rfl : k = n := by omega
      obtain rfl : r = true := HR.out.trans (sameN_eq.2 (ents_eq (HN.out.symm.trans HM.out) (fun p hp => HF.out p (by rw [HM.out]; exact hp))))
      go_wp2
      go_ret
      exact ⟨rfl, HB.out⟩

end Go.Proofs.Ytoelidndnajedaa
