/- The contract of slices.symMergeCmpFunc: two sorted halves of a row are merged, stably; for a test that is a strict weak order where it is asked. -/
import Derived.Test.YtbndcjbnpgdpjaaRotate
import Derived.Shelf.SlSortCmp.QuietGrown
namespace Go.Proofs.Ytbndcjbnpgdpjaa
open Go.RowKit Go.Sort Go.Shelf Go.Lib Go.Proofs
variable {α : Type} [Inhabited α]

/-- What symMerge does to a row. -/
def Merged (enc : α → Value) (lt2 : α → α → Bool) (w0 : World) (blk off a b : Nat) (d : Array α) (e : Ending) (w' : World) : Prop := e = .returned (.tuple #[]) ∧ ∃ d', PermIn a b d d' ∧ SortedIn lt2 a b d' ∧ SW enc w0 blk off d' w'

set_option maxHeartbeats 1000000 in
set_option maxRecDepth 100000 in
/-- One element on the left. -/
theorem merge_left (enc : α → Value) (cf : α → α → Int) (lt2 : α → α → Bool) (hS : SWO lt2) (g : Nat) (cb : Array Value) (blk off cap a m b : Nat) (d0 d : Array α) (w0 w : World)
    (eg : ∀ args w, (callFunc g args).run Try.prog w = .ok (.enter g args) w) (hcmp : CmpLays1 Try.prog g cb enc cf blk off d0.size w0) (R : Row1 enc w0 blk off d0) (hs : d0.size = d.size) (S : SW enc w0 blk off d w) (ham : m = a + 1) (hmb : m < b) (hb : b ≤ d.size) (hsz : d.size < 4611686018427387904) (hH : Halves (ltOf cf) lt2 a m b d) :
    Calls Try.prog 40 #[.slice (some ⟨blk, off, none⟩) d.size cap, .int .i64 a, .int .i64 m, .int .i64 b, .func (.func g) #[] cb] w (Merged enc lt2 w0 blk off a b d) := by
  have hcl0 := R.hO.cells
  simp only [Value.cells] at hcl0
  have hst := R.hO.store Try.prog
  have mixed : Try.prog.follows .mixedOrders = true := by kernel_rfl
  have S0 : Aside (SW enc w0 blk off d w) := S
  have HC : Aside _ := hcmp
  have HH := Lib.hid hH
  clear S hcmp hH
  have e1 : ((m : Int) - (a : Int) == 1) = true := by rw [beq_iff_eq]; omega
  have HAM := Lib.hid ham
  have ham' : a < m := by omega
  clear ham
  go_enter Try.func40, Try.ntmps40
  go_wp2
  go_loopg [10, 11] (b - m) (fun g1 vi vj wr => ∃ (i j : Nat), vi = .int .i64 i ∧ vj = .int .i64 j ∧ m ≤ i ∧ i ≤ j ∧ j ≤ b ∧ j - i ≤ g1 ∧ Aside (SW enc w0 blk off d wr) ∧ Hid (i = m ∨ lt2 d[i - 1]! d[a]! = true) ∧ Hid (j = b ∨ lt2 d[j]! d[a]! = false))
  case atStart => exact ⟨m, b, rfl, rfl, Nat.le_refl _, by omega, Nat.le_refl _, Nat.le_refl _, S0, Or.inl rfl, Or.inl rfl⟩
  case round =>
    clear S0
    obtain ⟨i, j, rfl, rfl, hmi, hij, hjb, hg1, S1, HI, HJ⟩ := hrel
    by_cases hlt : i < j
    · have hltz : (i : Int) < (j : Int) := by omega
      go_wp2
      obtain ⟨h, hh⟩ : ∃ h : Nat, ((i : Int) + (j : Int)) / 2 = h := ⟨(i + j) / 2, by omega⟩
      have hih : i ≤ h := by omega
      have hhj : h < j := by omega
      rw [hh]
      clear hh
      have hh0 : (0 : Int) ≤ (h : Int) := by omega
      have ha0 : (0 : Int) ≤ (a : Int) := by omega
      have hh1 : (h : Int) < (d.size : Int) := by omega
      have ha1 : (a : Int) < (d.size : Int) := by omega
      obtain ⟨x, hx⟩ : ∃ x, x = d[h]! := ⟨_, rfl⟩
      obtain ⟨y, hy⟩ : ∃ x, x = d[a]! := ⟨_, rfl⟩
      have l1 := S1.out.cl R hs.symm h (by omega)
      have l2 := S1.out.cl R hs.symm a (by omega)
      rw [← hx] at l1
      rw [← hy] at l2
      have hc := S1.out.cmp HC.out hs.symm x y
      have hcr : ltOf cf x y = lt2 x y := by rw [hx, hy]; exact HH.out.cross a h (Nat.le_refl _) ham' (by omega) (by omega)
      cases hlv : lt2 x y with
      | true =>
        have hv : cf x y < 0 := by rw [hlv] at hcr; exact of_decide_eq_true hcr
        have hd1 : decide (cf x y < 0) = true := decide_eq_true hv
        have HX := Lib.hid hx
        have HY := Lib.hid hy
        have HLV := Lib.hid hlv
        clear hx hy hlv hcr
        go_quiet_grown (first | (go_at_fn g; refine Calls.grown_of (hc _ _)))
        have S2 : Aside (SW enc w0 blk off d (grow (wr.drewN nq) osq)) := S1.out.grown nq osq
        clear l1 l2 hc S1
        generalize grow (wr.drewN nq) osq = w2 at S2 ⊢
        clear nq osq
        go_wp2
        go_roundg (j - (h + 1))
        case measure => omega
        case rel => exact ⟨h + 1, j, by go_num, rfl, by omega, by omega, hjb, Nat.le_refl _, S2, Or.inr (by rw [Nat.add_sub_cancel, ← HX.out, ← HY.out]; exact HLV.out), HJ⟩
      | false =>
        have hv : ¬ cf x y < 0 := by rw [hlv] at hcr; exact of_decide_eq_false hcr
        have hd1 : decide (cf x y < 0) = false := decide_eq_false hv
        have HX := Lib.hid hx
        have HY := Lib.hid hy
        have HLV := Lib.hid hlv
        clear hx hy hlv hcr
        go_quiet_grown (first | (go_at_fn g; refine Calls.grown_of (hc _ _)))
        have S2 : Aside (SW enc w0 blk off d (grow (wr.drewN nq) osq)) := S1.out.grown nq osq
        clear l1 l2 hc S1
        generalize grow (wr.drewN nq) osq = w2 at S2 ⊢
        clear nq osq
        go_wp2
        go_roundg (h - i)
        case measure => omega
        case rel => exact ⟨i, h, rfl, rfl, hmi, hih, by omega, Nat.le_refl _, S2, HI, Or.inr (by rw [← HX.out, ← HY.out]; exact HLV.out)⟩
    · obtain rfl : i = j := by omega
      have HAM' := HAM.out
      have hia : a + 1 ≤ i := by omega
      clear HAM'
      go_wp2
      go_loopg [13] (i - 1 - a) (fun g1 vk wr => ∃ (k : Nat) (dk : Array α), vk = .int .i64 k ∧ a ≤ k ∧ k + 1 ≤ i ∧ i - 1 - k ≤ g1 ∧ dk.size = d.size ∧ Aside (SW enc w0 blk off dk wr) ∧ Hid (Rot a (a + 1) (k + 1) d dk))
      case atStart => exact ⟨a, d, rfl, Nat.le_refl _, hia, Nat.le_refl _, rfl, S1, Lib.hid Rot.none_right⟩
      case round =>
        clear S1
        obtain ⟨k, dk, rfl, hak, hki, hg1, hsk, S1, HD⟩ := hrel
        by_cases hlt2 : k + 1 < i
        · have hltz : (k : Int) < (i : Int) - 1 := by omega
          obtain ⟨jN, hjN⟩ : ∃ q, q = k + 1 := ⟨_, rfl⟩
          have ec : ((k : Int) + 1).toNat = jN := by omega
          have pc : (0 : Int) ≤ (k : Int) + 1 := by omega
          have bc : (k : Int) + 1 < (d.size : Int) := by omega
          have rc : IntKind.i64.wrap ((k : Int) + 1) = (k : Int) + 1 := by rw [IntKind.wrap_i64]; omega
          have pk : (0 : Int) ≤ (k : Int) := by omega
          have bk : (k : Int) < (d.size : Int) := by omega
          obtain ⟨x, hx⟩ : ∃ x, x = dk[k]! := ⟨_, rfl⟩
          obtain ⟨y, hy⟩ : ∃ x, x = dk[k + 1]! := ⟨_, rfl⟩
          have S3 : Aside (SW enc w0 blk off (swp dk k (k + 1)) ((wr.setCell ⟨blk, off + k, none⟩ (enc y)).setCell ⟨blk, off + jN, none⟩ (enc x)).drew) := by rw [hjN, hx, hy]; exact S1.out.swapped R k (k + 1) (by omega) (by omega)
          have c1 := S1.out.c1 R (by omega) k (by omega)
          have c2 := S1.out.c1 R (by omega) (k + 1) (by omega)
          have f1 := S1.out.f1 R (by omega) k (by omega)
          have f2 := S1.out.f1 R (by omega) (k + 1) (by omega)
          obtain ⟨u, c3⟩ := S1.out.c2 R (by omega) k (k + 1) (by omega) (by omega) (enc y)
          rw [← hjN] at c3
          rw [← hx] at c1
          rw [← hy, ← hjN] at c2
          rw [← hjN] at f2
          clear S1 hx hy hjN
          go_wp2_with fail
          go_big_region
          clear c1 c2 c3 f1 f2
          generalize ((wr.setCell ⟨blk, off + k, none⟩ (enc y)).setCell ⟨blk, off + jN, none⟩ (enc x)).drew = w3 at S3 ⊢
          clear ec
          go_wp2
          go_roundg (i - 1 - (k + 1))
          case measure => omega
          case rel => exact ⟨k + 1, swp dk k (k + 1), by go_num, by omega, by omega, Nat.le_refl _, by rw [swp_size]; exact hsk, S3, Lib.hid (HD.out.step_up hak (by omega))⟩
        · have hltz : ¬ (k : Int) < (i : Int) - 1 := by omega
          go_wp2
          go_end0
          have hki' : k + 1 = i := by omega
          have hrot : Rot a m i d dk := by rw [HAM.out, ← hki']; exact HD.out
          have hcut : Cut lt2 a a m i b d := ⟨Nat.le_refl _, by omega, hmi, by omega, Or.inl rfl, Or.inr (by rcases HI.out with h | h; exact Or.inl h; exact Or.inr h)⟩
          have hfin := cut_sorted hS hb HH.out hcut hrot (Or.inl rfl) (by
            rcases HJ.out with h | h
            · exact Or.inl h
            · refine Or.inr (Or.inr ⟨trivial, fun p q hp hpm hq hqb => ?_⟩)
              obtain rfl : p = a := by have := HAM.out; omega
              exact hS.ntrans _ _ _ (sorted_le hS HH.out.right hmi hq hqb) h)
          exact ⟨rfl, dk, hfin.1, hfin.2, S1.out⟩

set_option maxHeartbeats 1000000 in
set_option maxRecDepth 100000 in
/-- One element on the right. -/
theorem merge_right (enc : α → Value) (cf : α → α → Int) (lt2 : α → α → Bool) (hS : SWO lt2) (g : Nat) (cb : Array Value) (blk off cap a m b : Nat) (d0 d : Array α) (w0 w : World)
    (eg : ∀ args w, (callFunc g args).run Try.prog w = .ok (.enter g args) w) (hcmp : CmpLays1 Try.prog g cb enc cf blk off d0.size w0) (R : Row1 enc w0 blk off d0) (hs : d0.size = d.size) (S : SW enc w0 blk off d w) (ham : a + 1 < m) (hmb : b = m + 1) (hb : b ≤ d.size) (hsz : d.size < 4611686018427387904) (hH : Halves (ltOf cf) lt2 a m b d) :
    Calls Try.prog 40 #[.slice (some ⟨blk, off, none⟩) d.size cap, .int .i64 a, .int .i64 m, .int .i64 b, .func (.func g) #[] cb] w (Merged enc lt2 w0 blk off a b d) := by
  have hcl0 := R.hO.cells
  simp only [Value.cells] at hcl0
  have hst := R.hO.store Try.prog
  have mixed : Try.prog.follows .mixedOrders = true := by kernel_rfl
  have S0 : Aside (SW enc w0 blk off d w) := S
  have HC : Aside _ := hcmp
  have HH := Lib.hid hH
  clear S hcmp hH
  have e1 : ((m : Int) - (a : Int) == 1) = false := by rw [beq_eq_false_iff_ne]; omega
  have e2 : ((b : Int) - (m : Int) == 1) = true := by rw [beq_iff_eq]; omega
  have HMB := Lib.hid hmb
  have hmb' : m < b := by omega
  clear hmb
  go_enter Try.func40, Try.ntmps40
  go_wp2
  go_loopg [14, 15] (m - a) (fun g1 vi vj wr => ∃ (i j : Nat), vi = .int .i64 i ∧ vj = .int .i64 j ∧ a ≤ i ∧ i ≤ j ∧ j ≤ m ∧ j - i ≤ g1 ∧ Aside (SW enc w0 blk off d wr) ∧ Hid (i = a ∨ lt2 d[m]! d[i - 1]! = false) ∧ Hid (j = m ∨ lt2 d[m]! d[j]! = true))
  case atStart => exact ⟨a, m, rfl, rfl, Nat.le_refl _, by omega, Nat.le_refl _, Nat.le_refl _, S0, Or.inl rfl, Or.inl rfl⟩
  case round =>
    clear S0
    obtain ⟨i, j, rfl, rfl, hai, hij, hjm, hg1, S1, HI, HJ⟩ := hrel
    by_cases hlt : i < j
    · have hltz : (i : Int) < (j : Int) := by omega
      go_wp2
      obtain ⟨h, hh⟩ : ∃ h : Nat, ((i : Int) + (j : Int)) / 2 = h := ⟨(i + j) / 2, by omega⟩
      have hih : i ≤ h := by omega
      have hhj : h < j := by omega
      rw [hh]
      clear hh
      have hh0 : (0 : Int) ≤ (h : Int) := by omega
      have hm0 : (0 : Int) ≤ (m : Int) := by omega
      have hh1 : (h : Int) < (d.size : Int) := by omega
      have hm1 : (m : Int) < (d.size : Int) := by omega
      obtain ⟨x, hx⟩ : ∃ x, x = d[m]! := ⟨_, rfl⟩
      obtain ⟨y, hy⟩ : ∃ x, x = d[h]! := ⟨_, rfl⟩
      have l1 := S1.out.cl R hs.symm m (by omega)
      have l2 := S1.out.cl R hs.symm h (by omega)
      rw [← hx] at l1
      rw [← hy] at l2
      have hc := S1.out.cmp HC.out hs.symm x y
      have hcr : ltOf cf x y = lt2 x y := by rw [hx, hy]; exact HH.out.cross h m (by omega) (by omega) (Nat.le_refl _) hmb'
      cases hlv : lt2 x y with
      | true =>
        have hv : cf x y < 0 := by rw [hlv] at hcr; exact of_decide_eq_true hcr
        have hd1 : decide (cf x y < 0) = true := decide_eq_true hv
        have HX := Lib.hid hx
        have HY := Lib.hid hy
        have HLV := Lib.hid hlv
        clear hx hy hlv hcr
        go_quiet_grown (first | (go_at_fn g; refine Calls.grown_of (hc _ _)))
        have S2 : Aside (SW enc w0 blk off d (grow (wr.drewN nq) osq)) := S1.out.grown nq osq
        clear l1 l2 hc S1
        generalize grow (wr.drewN nq) osq = w2 at S2 ⊢
        clear nq osq
        go_wp2
        go_roundg (h - i)
        case measure => omega
        case rel => exact ⟨i, h, rfl, rfl, hai, hih, by omega, Nat.le_refl _, S2, HI, Or.inr (by rw [← HX.out, ← HY.out]; exact HLV.out)⟩
      | false =>
        have hv : ¬ cf x y < 0 := by rw [hlv] at hcr; exact of_decide_eq_false hcr
        have hd1 : decide (cf x y < 0) = false := decide_eq_false hv
        have HX := Lib.hid hx
        have HY := Lib.hid hy
        have HLV := Lib.hid hlv
        clear hx hy hlv hcr
        go_quiet_grown (first | (go_at_fn g; refine Calls.grown_of (hc _ _)))
        have S2 : Aside (SW enc w0 blk off d (grow (wr.drewN nq) osq)) := S1.out.grown nq osq
        clear l1 l2 hc S1
        generalize grow (wr.drewN nq) osq = w2 at S2 ⊢
        clear nq osq
        go_wp2
        go_roundg (j - (h + 1))
        case measure => omega
        case rel => exact ⟨h + 1, j, by go_num, rfl, by omega, by omega, hjm, Nat.le_refl _, S2, Or.inr (by rw [Nat.add_sub_cancel, ← HX.out, ← HY.out]; exact HLV.out), HJ⟩
    · obtain rfl : i = j := by omega
      go_wp2
      go_loopg [17] (m - i) (fun g1 vk wr => ∃ (k : Nat) (dk : Array α), vk = .int .i64 k ∧ i ≤ k ∧ k ≤ m ∧ k - i ≤ g1 ∧ dk.size = d.size ∧ Aside (SW enc w0 blk off dk wr) ∧ Hid (Rot k m (m + 1) d dk))
      case atStart => exact ⟨m, d, rfl, hjm, Nat.le_refl _, Nat.le_refl _, rfl, S1, Lib.hid Rot.none_left⟩
      case round =>
        clear S1
        obtain ⟨k, dk, rfl, hik, hkm, hg1, hsk, S1, HD⟩ := hrel
        by_cases hlt2 : i < k
        · obtain ⟨kp, rfl⟩ : ∃ q, k = q + 1 := ⟨k - 1, by omega⟩
          have hltz : (i : Int) < (kp : Int) + 1 := by omega
          have hgt : decide ((kp : Int) + 1 > (i : Int)) = true := decide_eq_true (by omega)
          obtain ⟨iN, hiN⟩ : ∃ q, q = kp + 1 := ⟨_, rfl⟩
          have ec : ((kp : Int) + 1).toNat = iN := by omega
          have pc : (0 : Int) ≤ (kp : Int) + 1 := by omega
          have bc : (kp : Int) + 1 < (d.size : Int) := by omega
          have rc : IntKind.i64.wrap ((kp : Int) + 1) = (kp : Int) + 1 := by rw [IntKind.wrap_i64]; omega
          have pk : (0 : Int) ≤ (kp : Int) := by omega
          have bk : (kp : Int) < (d.size : Int) := by omega
          have rk : IntKind.i64.wrap ((kp : Int)) = (kp : Int) := by rw [IntKind.wrap_i64]; omega
          have zk : ((kp + 1 : Nat) : Int) = (kp : Int) + 1 := by omega
          rw [zk]
          obtain ⟨x, hx⟩ : ∃ x, x = dk[kp + 1]! := ⟨_, rfl⟩
          obtain ⟨y, hy⟩ : ∃ x, x = dk[kp]! := ⟨_, rfl⟩
          have S3 : Aside (SW enc w0 blk off (swp dk (kp + 1) kp) ((wr.setCell ⟨blk, off + iN, none⟩ (enc y)).setCell ⟨blk, off + kp, none⟩ (enc x)).drew) := by rw [hiN, hx, hy]; exact S1.out.swapped R (kp + 1) kp (by omega) (by omega)
          have c1 := S1.out.c1 R (by omega) (kp + 1) (by omega)
          have c2 := S1.out.c1 R (by omega) kp (by omega)
          have f1 := S1.out.f1 R (by omega) (kp + 1) (by omega)
          have f2 := S1.out.f1 R (by omega) kp (by omega)
          obtain ⟨u, c3⟩ := S1.out.c2 R (by omega) (kp + 1) kp (by omega) (by omega) (enc y)
          rw [← hiN] at c3
          rw [← hx, ← hiN] at c1
          rw [← hy] at c2
          rw [← hiN] at f1
          clear S1 hx hy hiN zk
          go_wp2_with fail
          go_big_region
          clear c1 c2 c3 f1 f2
          generalize ((wr.setCell ⟨blk, off + iN, none⟩ (enc y)).setCell ⟨blk, off + kp, none⟩ (enc x)).drew = w3 at S3 ⊢
          clear ec
          go_wp2
          go_roundg (kp - i)
          case measure => omega
          case rel => exact ⟨kp, swp dk (kp + 1) kp, by first | rfl | go_num, by omega, by omega, Nat.le_refl _, by rw [swp_size]; exact hsk, S3, Lib.hid (HD.out.step_down hkm (by omega))⟩
        · obtain rfl : i = k := by omega
          have hltz : ¬ (i : Int) < (i : Int) := by omega
          go_wp2
          go_end0
          have hrot : Rot i m b d dk := by rw [HMB.out]; exact HD.out
          have hcut : Cut lt2 a i m b b d := ⟨hai, hjm, by omega, Nat.le_refl _, Or.inr (Or.inl rfl), by
            rcases HJ.out with h | h
            · exact Or.inl h
            · exact Or.inr (Or.inr (by rw [HMB.out, Nat.add_sub_cancel]; exact h))⟩
          have hfin := cut_sorted hS hb HH.out hcut hrot (by
            rcases HI.out with h | h
            · exact Or.inl h
            · refine Or.inr (Or.inr ⟨trivial, fun p q hp hpi hq hqb => ?_⟩)
              obtain rfl : q = m := by have := HMB.out; omega
              exact hS.ntrans _ _ _ h (sorted_le hS HH.out.left hp (show p ≤ i - 1 by omega) (by omega))) (Or.inl rfl)
          exact ⟨rfl, dk, hfin.1, hfin.2, S1.out⟩

end Go.Proofs.Ytbndcjbnpgdpjaa
