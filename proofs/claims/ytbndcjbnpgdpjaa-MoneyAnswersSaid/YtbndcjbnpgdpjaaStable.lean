/- The contract of slices.SortStableFunc at int: it sorts a row stably; for a test that is a strict weak order on a later and a former element, and at most 1,000,000,000 elements. -/
import Derived.Test.YtbndcjbnpgdpjaaMergeT
import Derived.Test.YtbndcjbnpgdpjaaStableM
import Derived.Test.YtbndcjbnpgdpjaaSortB
namespace Go.Proofs.Ytbndcjbnpgdpjaa
open Go.RowKit Go.Sort Go.Shelf Go.Lib Go.Proofs
variable {α : Type} [Inhabited α]

/-- symMerge where the places stand as Go's own sums. -/
theorem merge_at {enc : α → Value} {cf : α → α → Int} {lt2 : α → α → Bool} {g : Nat} {cb : Array Value} {blk off cap : Nat} {d0 : Array α} {w0 : World} {k : Nat} (h : MergeSaid enc cf lt2 g cb blk off cap d0 w0 k)
    (x y z : Int) (a m b : Nat) (d : Array α) (w : World) (hx : x = a) (hy : y = m) (hz : z = b) (hk : b - a ≤ k) (ham : a < m) (hmb : m < b) (hb : b ≤ d0.size) (hs : d0.size = d.size) (S : SW enc w0 blk off d w) (hH : Halves (ltOf cf) lt2 a m b d) :
    Calls Try.prog 40 #[.slice (some ⟨blk, off, none⟩) d0.size cap, .int .i64 x, .int .i64 y, .int .i64 z, .func (.func g) #[] cb] w (Merged enc lt2 w0 blk off a b d) := by
  subst hx; subst hy; subst hz
  exact h a m b d w hk ham hmb hb hs S hH

/-- insertionSort where the places stand as Go's own sums, and its test agrees with the order's. -/
theorem insertion_at (enc : α → Value) (cf : α → α → Int) (lt2 : α → α → Bool) (hS : SWO lt2) (g : Nat) (cb : Array Value) (blk off cap : Nat) (x y : Int) (a b : Nat) (d0 d : Array α) (w0 w : World) (hx : x = a) (hy : y = b)
    (eg : ∀ args w, (callFunc g args).run Try.prog w = .ok (.enter g args) w) (hcmp : CmpLays1 Try.prog g cb enc cf blk off d0.size w0) (R : Row1 enc w0 blk off d0) (hs : d0.size = d.size) (S : SW enc w0 blk off d w) (hab : a ≤ b) (hb : b ≤ d0.size) (hsz : d0.size < 4611686018427387904)
    (hA : ∀ p q, a ≤ p → p < q → q < b → ltOf cf d[q]! d[p]! = lt2 d[q]! d[p]!) :
    Calls Try.prog 39 #[.slice (some ⟨blk, off, none⟩) d0.size cap, .int .i64 x, .int .i64 y, .func (.func g) #[] cb] w (Merged enc lt2 w0 blk off a b d) := by
  subst hx; subst hy
  have h := insertion_sw enc cf g cb blk off cap a b d0 d w0 w eg hcmp R hs S hab (by omega) (by omega)
  rw [hs]
  refine h.mono fun e w' ⟨he, hsw⟩ => ⟨he, _, ?_, ?_, hsw⟩
  · rw [insertionSort_same hS d a b (by omega) hA]; exact (insertionSort_holds hS d a b hab (by omega)).1
  · rw [insertionSort_same hS d a b (by omega) hA]; exact (insertionSort_holds hS d a b hab (by omega)).2

set_option maxHeartbeats 4000000 in
set_option maxRecDepth 100000 in
theorem stable_any (enc : α → Value) (cf : α → α → Int) (lt2 : α → α → Bool) (hS : SWO lt2) (g : Nat) (cb : Array Value) (blk off cap : Nat) (d0 : Array α) (w0 : World)
    (eg : ∀ args w, (callFunc g args).run Try.prog w = .ok (.enter g args) w) (hcmp : CmpLays1 Try.prog g cb enc cf blk off d0.size w0) (R : Row1 enc w0 blk off d0) (hsz : d0.size ≤ 1000000000) (hA : Agree (ltOf cf) lt2 d0 d0.size) :
    Calls Try.prog 37 #[.slice (some ⟨blk, off, none⟩) d0.size cap, .int .i64 d0.size, .func (.func g) #[] cb] w0 (Merged enc lt2 w0 blk off 0 d0.size d0) := by
  have HM := Lib.hid (fun k => symMerge_sw enc cf lt2 hS g cb blk off cap d0 w0 eg hcmp R (by omega) k)
  have HI := Lib.hid (fun (x y : Int) (a b : Nat) (d : Array α) (w : World) (hx : x = a) (hy : y = b) (hs : d0.size = d.size) S hab hb hA => insertion_at enc cf lt2 hS g cb blk off cap x y a b d0 d w0 w hx hy eg hcmp R hs S hab hb (by omega) hA)
  have HAG := Lib.hid hA
  have S0 : Aside (SW enc w0 blk off d0 w0) := SW.start R.hH
  obtain ⟨n, hn⟩ : ∃ n, n = d0.size := ⟨_, rfl⟩
  have HN := Lib.hid hn
  have hn1 : n ≤ 1000000000 := by omega
  rw [← hn]
  clear hA hcmp R hsz hn
  go_enter Try.func37, Try.ntmps37
  go_wp2
  go_loopg [7, 8] n (fun g1 va vb wr => ∃ (a b : Nat) (dk : Array α), va = .int .i64 a ∧ vb = .int .i64 b ∧ b ≤ a + 20 ∧ a + 20 ≤ b ∧ a ≤ n ∧ n - a ≤ g1 ∧ Hid (20 ∣ a) ∧ Hid (PermIn 0 n d0 dk) ∧ Hid (Blocks lt2 d0 n 20 0 a dk) ∧ Hid (∀ k, a ≤ k → k < n → dk[k]! = d0[k]!) ∧ Aside (SW enc w0 blk off dk wr))
  case atStart => exact ⟨0, 20, d0, rfl, rfl, by omega, by omega, by omega, by omega, Lib.hid (Nat.dvd_zero _), Lib.hid (permIn_refl _ _ _), Lib.hid (fun c h1 h2 => by omega), Lib.hid (fun _ _ _ => rfl), S0⟩
  case round =>
    clear S0
    obtain ⟨a, b, dk, rfl, rfl, hb1, hb2, han, hg1, HD, HP, HB, HR, S1⟩ := hrel
    have hsk : d0.size = dk.size := HP.out.1.symm
    have HSK := Lib.hid hsk
    by_cases hlt : b ≤ n
    · have hltz : (b : Int) ≤ (n : Int) := by omega
      have hcon := HI.out (a : Int) (b : Int) a b dk wr rfl rfl hsk S1.out (by omega) (by rw [← HN.out]; exact hlt) (fun p q hp hpq hqb => by rw [HR.out p hp (by omega), HR.out q (by omega) (by omega)]; exact HAG.out p q hpq (by rw [← HN.out]; omega))
      rw [← HN.out] at hcon
      have HC := Lib.hid hcon
      clear hcon S1 hsk
      go_wp2_with fail
      refine (HC.out).mono ?_
      rintro e w1 ⟨rfl, d1, p1, s1, S2⟩
      have hbl := blocks_first HD.out b (by omega) (by omega) (by have := HSK.out; have := HN.out; omega) HB.out HR.out p1 s1
      have HBL := Lib.hid hbl
      have HP1 := Lib.hid p1
      have SA : Aside (SW enc w0 blk off d1 w1) := S2
      clear hbl p1 s1 S2
      go_wp2
      go_roundg (n - b)
      case measure => omega
      case rel =>
        refine ⟨b, b + 20, d1, rfl, by go_num, by omega, by omega, hlt, Nat.le_refl _, Lib.hid ?_, Lib.hid ?_, Lib.hid ?_, Lib.hid HBL.out.2, SA⟩
        · rw [show b = a + 20 by omega]; exact Nat.dvd_add HD.out (Nat.dvd_refl _)
        · exact permIn_trans _ _ _ _ _ HP.out (permIn_mono _ _ _ _ _ _ (Nat.zero_le _) hlt (by have := HSK.out; have := HN.out; omega) HP1.out)
        · rw [show b = a + 20 by omega]; exact HBL.out.1
    · have hltz : ¬ (b : Int) ≤ (n : Int) := by omega
      have hcon := HI.out (a : Int) (n : Int) a n dk wr rfl rfl hsk S1.out han (by rw [← HN.out]; exact Nat.le_refl _) (fun p q hp hpq hqb => by rw [HR.out p hp (by omega), HR.out q (by omega) (by omega)]; exact HAG.out p q hpq (by rw [← HN.out]; omega))
      rw [← HN.out] at hcon
      have HC := Lib.hid hcon
      clear hcon S1 hsk
      go_wp2_with fail
      refine (HC.out).mono ?_
      rintro e w1 ⟨rfl, d1, p1, s1, S2⟩
      have hbl := (blocks_first HD.out n (by omega) han (by have := HSK.out; have := HN.out; omega) HB.out HR.out p1 s1).1
      have HBL : Hid (Blocks lt2 d0 n 20 0 n d1) := Lib.hid (blocks_short hbl (by omega))
      have HP1 : Hid (PermIn 0 n d0 d1) := Lib.hid (permIn_trans _ _ _ _ _ HP.out (permIn_mono _ _ _ _ _ _ (Nat.zero_le _) (Nat.le_refl _) (by have := HSK.out; have := HN.out; omega) p1))
      have SA : Aside (SW enc w0 blk off d1 w1) := S2
      clear hbl p1 s1 S2 hltz
      go_wp2
      go_loopg [6] n (fun g2 vs wr => ∃ (s : Nat) (dk : Array α), vs = .int .i64 s ∧ 20 ≤ s ∧ s ≤ 2000000020 ∧ n - s ≤ g2 ∧ Hid (PermIn 0 n d0 dk) ∧ Hid (Blocks lt2 d0 n s 0 n dk) ∧ Aside (SW enc w0 blk off dk wr))
      case atStart => exact ⟨20, d1, rfl, Nat.le_refl _, by omega, by omega, HP1, HBL, SA⟩
      case round =>
        clear SA
        obtain ⟨s, dk, rfl, hs20, hs2, hg2, HP2, HB2, S1⟩ := hrel
        by_cases hsn : s < n
        · have hsz : (s : Int) < (n : Int) := by omega
          obtain ⟨s2, hs2'⟩ : ∃ q : Nat, (2 : Int) * (s : Int) = q := ⟨2 * s, by omega⟩
          have hsa : s2 ≤ 2 * s := by omega
          have hsb : 2 * s ≤ s2 := by omega
          have HS2 := Lib.hid hs2'
          clear hs2'
          go_wp2
          rw [HS2.out]
          go_loopg [7, 8] n (fun g3 va vb wr => ∃ (a b : Nat) (dk : Array α), va = .int .i64 a ∧ vb = .int .i64 b ∧ b ≤ a + s2 ∧ a + s2 ≤ b ∧ a ≤ n ∧ n - a ≤ g3 ∧ Hid (2 * s ∣ a) ∧ Hid (PermIn 0 n d0 dk) ∧ Hid (Blocks lt2 d0 n (2 * s) 0 a dk) ∧ Hid (Blocks lt2 d0 n s a n dk) ∧ Aside (SW enc w0 blk off dk wr))
          case atStart => exact ⟨0, s2, dk, rfl, rfl, by omega, by omega, by omega, by omega, Lib.hid (Nat.dvd_zero _), HP2, Lib.hid (fun c h1 h2 => by omega), HB2, S1⟩
          case round =>
            clear S1
            obtain ⟨a, b, dk, rfl, rfl, hb1, hb2, han, hg3, HD, HP3, HB3, HB4, S1⟩ := hrel
            have hsk : d0.size = dk.size := HP3.out.1.symm
            have HSK := Lib.hid hsk
            have hdva : s ∣ a := Nat.dvd_trans ⟨2, by omega⟩ HD.out
            have HDA := Lib.hid hdva
            have e1 : a + s ≤ n → min (a + s) n = a + s := fun h => by omega
            by_cases hlt : b ≤ n
            · have hltz : (b : Int) ≤ (n : Int) := by omega
              have q1 := HB4.out a (Nat.le_refl _) (by omega) HDA.out
              have q2 := HB4.out (a + s) (by omega) (by omega) (Nat.dvd_add HDA.out (Nat.dvd_refl _))
              rw [show min (a + s) n = a + s by omega] at q1
              rw [show min (a + s + s) n = b by omega] at q2
              have hh := halves_of (n := n) (by rw [HN.out]; exact HAG.out) q1.1 q2.1 q1.2 q2.2 hlt
              have hcon := merge_at (HM.out n) (a : Int) ((a : Int) + (s : Int)) (b : Int) a (a + s) b dk wr rfl (by omega) rfl (by omega) (by omega) (by omega) (by rw [← HN.out]; exact hlt) hsk S1.out hh
              rw [← HN.out] at hcon
              have HC := Lib.hid hcon
              clear hcon S1 hsk hdva e1 q1 q2 hh
              go_wp2_with fail
              refine (HC.out).mono ?_
              rintro e w2 ⟨rfl, d2, p2, t2, S2⟩
              have hbl := blocks_merge (by omega) HD.out b (by omega) (by omega) (by have := HSK.out; have := HN.out; omega) HB3.out HB4.out p2 t2
              have HBM := Lib.hid hbl
              have HPN : Hid (PermIn 0 n d0 d2) := Lib.hid (permIn_trans _ _ _ _ _ HP3.out (permIn_mono _ _ _ _ _ _ (Nat.zero_le _) hlt (by have := HSK.out; have := HN.out; omega) p2))
              have SB : Aside (SW enc w0 blk off d2 w2) := S2
              clear hbl p2 t2 S2
              have z2 : (2 : Int) * (s : Int) = (s2 : Int) := HS2.out
              go_wp2
              go_roundg (n - b)
              case measure => omega
              case rel =>
                refine ⟨b, b + s2, d2, rfl, by go_num, by omega, by omega, hlt, Nat.le_refl _, Lib.hid ?_, HPN, Lib.hid ?_, Lib.hid ?_, SB⟩
                · rw [show b = a + 2 * s by omega]; exact Nat.dvd_add HD.out (Nat.dvd_refl _)
                · rw [show b = a + 2 * s by omega]; exact HBM.out.1
                · rw [show b = a + 2 * s by omega]; exact HBM.out.2
            · have hltz : ¬ (b : Int) ≤ (n : Int) := by omega
              by_cases hm : a + s < n
              · have hmz : (a : Int) + (s : Int) < (n : Int) := by omega
                have q1 := HB4.out a (Nat.le_refl _) (by omega) HDA.out
                have q2 := HB4.out (a + s) (by omega) (by omega) (Nat.dvd_add HDA.out (Nat.dvd_refl _))
                rw [show min (a + s) n = a + s by omega] at q1
                rw [show min (a + s + s) n = n by omega] at q2
                have hh := halves_of (n := n) (by rw [HN.out]; exact HAG.out) q1.1 q2.1 q1.2 q2.2 (Nat.le_refl _)
                have hcon := merge_at (HM.out n) (a : Int) ((a : Int) + (s : Int)) (n : Int) a (a + s) n dk wr rfl (by omega) rfl (by omega) (by omega) hm (by rw [← HN.out]; exact Nat.le_refl _) hsk S1.out hh
                rw [← HN.out] at hcon
                have HC := Lib.hid hcon
                clear hcon S1 hsk hdva e1 q1 q2 hh
                go_wp2_with fail
                refine (HC.out).mono ?_
                rintro e w2 ⟨rfl, d2, p2, t2, S2⟩
                have hbl := (blocks_merge (by omega) HD.out n (by omega) hm (by have := HSK.out; have := HN.out; omega) HB3.out HB4.out p2 t2).1
                have HBM : Hid (Blocks lt2 d0 n (2 * s) 0 n d2) := Lib.hid (blocks_short hbl (by omega))
                have HPN : Hid (PermIn 0 n d0 d2) := Lib.hid (permIn_trans _ _ _ _ _ HP3.out (permIn_mono _ _ _ _ _ _ (Nat.zero_le _) (Nat.le_refl _) (by have := HSK.out; have := HN.out; omega) p2))
                have SB : Aside (SW enc w0 blk off d2 w2) := S2
                clear hbl p2 t2 S2
                go_wp2
                go_roundg (n - 2 * s)
                case measure => omega
                case rel => exact ⟨2 * s, d2, by go_num, by omega, by omega, Nat.le_refl _, HPN, HBM, SB⟩
              · have hmz : ¬ (a : Int) + (s : Int) < (n : Int) := by omega
                have HBM : Hid (Blocks lt2 d0 n (2 * s) 0 n dk) := Lib.hid (blocks_last (by omega) HD.out (by omega) HB3.out HB4.out)
                clear hsk hdva e1
                go_wp2
                go_roundg (n - 2 * s)
                case measure => omega
                case rel => exact ⟨2 * s, dk, by go_num, by omega, by omega, Nat.le_refl _, HP3, HBM, S1⟩
        · have hsz : ¬ (s : Int) < (n : Int) := by omega
          go_wp2
          go_end0
          exact ⟨rfl, dk, HP2.out, blocks_all HB2.out (by omega), S1.out⟩

theorem SortStable_any (enc : α → Value) (cf : α → α → Int) (lt2 : α → α → Bool) (hS : SWO lt2) (g : Nat) (cb : Array Value) (blk off cap : Nat) (d0 : Array α) (w0 : World)
    (eg : ∀ args w, (callFunc g args).run Try.prog w = .ok (.enter g args) w) (hcmp : CmpLays1 Try.prog g cb enc cf blk off d0.size w0) (R : Row1 enc w0 blk off d0) (hsz : d0.size ≤ 1000000000) (hA : Agree (ltOf cf) lt2 d0 d0.size) :
    Calls Try.prog 34 #[.slice (some ⟨blk, off, none⟩) d0.size cap, .func (.func g) #[] cb] w0 (Merged enc lt2 w0 blk off 0 d0.size d0) := by
  have HC := Lib.hid (stable_any enc cf lt2 hS g cb blk off cap d0 w0 eg hcmp R hsz hA)
  clear hcmp R hA
  go_enter Try.func34, Try.ntmps34
  go_wp2_with fail
  refine (HC.out).mono ?_
  rintro e w' ⟨rfl, d', hp, hs, hsw⟩
  go_wp2
  go_end0
  exact ⟨rfl, d', hp, hs, hsw⟩

end Go.Proofs.Ytbndcjbnpgdpjaa
