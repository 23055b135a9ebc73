/- The contract of slices.symMergeCmpFunc, whole: two sorted halves of a row are merged, stably; by induction on their length. -/
import Derived.Test.YtbndcjbnpgdpjaaMerge
namespace Go.Proofs.Ytbndcjbnpgdpjaa
open Go.RowKit Go.Sort Go.Shelf Go.Lib Go.Proofs
variable {α : Type} [Inhabited α]

section
variable {lt lt2 : α → α → Bool} {a s m e b mid : Nat} {d d1 d2 d3 : Array α}

theorem halves_keep (hme : mid ≤ e) (h : Halves lt lt2 mid e b d1) (hp : PermIn a mid d1 d2) : Halves lt lt2 mid e b d2 := by
  refine ⟨fun i j hi hij hj => ?_, fun i j hi hij hj => ?_, fun p q hp' hpe hq hqb => ?_⟩
  · by_cases hmid : mid ≤ i
    · rw [hp.2.1 i (by omega), hp.2.1 j (by omega)]; exact h.left i j hi hij hj
    · omega
  · by_cases hem : mid ≤ i
    · rw [hp.2.1 i (by omega), hp.2.1 j (by omega)]; exact h.right i j hi hij hj
    · by_cases hem2 : e ≤ i
      · exact absurd hi (by omega)
      · omega
  · by_cases hmid : mid ≤ p
    · by_cases hmq : mid ≤ q
      · rw [hp.2.1 p (by omega), hp.2.1 q (by omega)]; exact h.cross p q hp' hpe hq hqb
      · omega
    · omega

/-- Both sides of the cut merged: all is merged. -/
theorem merge_fin (hS : SWO lt2) (hb : b ≤ d.size) (hH : Halves lt lt2 a m b d) (hC : Cut lt2 a s m e b d) (hR : Rot s m e d d1) (hmid : mid = s + (e - m))
    (p1 : PermIn a mid d1 d2) (s1 : SortedIn lt2 a mid d2) (p2 : PermIn mid b d2 d3) (s2 : SortedIn lt2 mid b d3) : PermIn a b d d3 ∧ SortedIn lt2 a b d3 := by
  subst hmid
  have hC' := hC
  obtain ⟨c1, c2, c3, c4, _, _⟩ := hC'
  obtain ⟨_, _, hx⟩ := cut_halves hS hH hC hR
  have h := merge_two (lt2 := lt2) (by omega) (by omega) (by rw [hR.size]; exact hb) hx p1 s1 p2 s2
  exact ⟨permIn_trans _ _ _ _ _ (permIn_mono _ _ _ _ _ _ c1 c4 hb hR.perm) h.1, h.2⟩

theorem left_half (hS : SWO lt2) (hH : Halves lt lt2 a m b d) (hC : Cut lt2 a s m e b d) (hR : Rot s m e d d1) (hmid : mid = s + (e - m)) : Halves lt lt2 a s mid d1 := by
  subst hmid; exact (cut_halves hS hH hC hR).1
theorem right_half (hS : SWO lt2) (hH : Halves lt lt2 a m b d) (hC : Cut lt2 a s m e b d) (hR : Rot s m e d d1) (hmid : mid = s + (e - m)) : Halves lt lt2 mid e b d1 := by
  subst hmid; exact (cut_halves hS hH hC hR).2.1

end

/-- What symMerge is to do, for halves of at most k elements together. -/
def MergeSaid (enc : α → Value) (cf : α → α → Int) (lt2 : α → α → Bool) (g : Nat) (cb : Array Value) (blk off cap : Nat) (d0 : Array α) (w0 : World) (k : Nat) : Prop :=
  ∀ (a m b : Nat) (d : Array α) (w : World), b - a ≤ k → a < m → m < b → b ≤ d0.size → d0.size = d.size → SW enc w0 blk off d w → Halves (ltOf cf) lt2 a m b d →
    Calls Try.prog 40 #[.slice (some ⟨blk, off, none⟩) d0.size cap, .int .i64 a, .int .i64 m, .int .i64 b, .func (.func g) #[] cb] w (Merged enc lt2 w0 blk off a b d)

set_option maxHeartbeats 4000000 in
set_option maxRecDepth 100000 in
theorem merge_low (enc : α → Value) (cf : α → α → Int) (lt2 : α → α → Bool) (hS : SWO lt2) (g : Nat) (cb : Array Value) (blk off cap : Nat) (d0 : Array α) (w0 : World)
    (eg : ∀ args w, (callFunc g args).run Try.prog w = .ok (.enter g args) w) (hcmp : CmpLays1 Try.prog g cb enc cf blk off d0.size w0) (R : Row1 enc w0 blk off d0) (hsz : d0.size < 4611686018427387904)
    (k a m b mid : Nat) (d : Array α) (w : World) (hk : b - a ≤ k + 1) (ham : a + 1 < m) (hmb : m + 1 < b) (hb : b ≤ d0.size) (hs : d0.size = d.size) (S : SW enc w0 blk off d w) (hH : Halves (ltOf cf) lt2 a m b d)
    (ih : MergeSaid enc cf lt2 g cb blk off cap d0 w0 k) (hmid : ((a : Int) + (b : Int)) / 2 = mid) (hc : mid < m) :
    Calls Try.prog 40 #[.slice (some ⟨blk, off, none⟩) d0.size cap, .int .i64 a, .int .i64 m, .int .i64 b, .func (.func g) #[] cb] w (Merged enc lt2 w0 blk off a b d) := by
  have hcl0 := R.hO.cells
  simp only [Value.cells] at hcl0
  have mixed : Try.prog.follows .mixedOrders = true := by kernel_rfl
  have S0 : Aside (SW enc w0 blk off d w) := S
  have HC : Aside _ := hcmp
  have HH := Lib.hid hH
  have HIH := Lib.hid ih
  have HR0 : Aside (Row1 enc w0 blk off d0) := R
  have HS := Lib.hid hs
  have hm1 : a + b ≤ 2 * mid + 1 := by omega
  have hm2 : 2 * mid ≤ a + b := by omega
  have HMID := Lib.hid hmid
  clear S hcmp hH ih R hs hmid
  have e1 : ((m : Int) - (a : Int) == 1) = false := by rw [beq_eq_false_iff_ne]; omega
  have e2 : ((b : Int) - (m : Int) == 1) = false := by rw [beq_eq_false_iff_ne]; omega
  have hcz : ((a : Int) + (b : Int)) / 2 < (m : Int) := by omega
  have hcz' : (mid : Int) < (m : Int) := by omega
  go_enter Try.func40, Try.ntmps40
  go_wp2
  rw [HMID.out]
  obtain ⟨p, hp⟩ : ∃ p : Nat, (mid : Int) + (m : Int) - 1 = p := ⟨mid + m - 1, by omega⟩
  rw [hp]
  have hp1 : p + 1 ≤ mid + m := by omega
  have hp2 : mid + m ≤ p + 1 := by omega
  clear hp
  obtain ⟨s0, hs0⟩ : ∃ q : Nat, q = mid + m - b := ⟨_, rfl⟩
  obtain ⟨r0, hr0⟩ : ∃ q : Nat, q = mid := ⟨_, rfl⟩
  have f1 : a ≤ s0 := by omega
  have f2 : s0 ≤ r0 := by omega
  have f3 : r0 ≤ m := by omega
  have f4 : r0 ≤ mid := by omega
  have f5 : mid + m ≤ b + s0 := by omega
  have F6 : Hid (s0 = a ∨ mid + m = b + s0) := Or.inr (by omega)
  have F7 : Hid (r0 = m ∨ r0 = mid) := Or.inr (by omega)
  have HS0 : Hid ((mid : Int) + (m : Int) - (b : Int) = (s0 : Int)) := Lib.hid (by omega)
  have HR1 : Hid ((mid : Int) = (r0 : Int)) := Lib.hid (by omega)
  clear hs0 hr0
  go_loopg [20, 21] (r0 - s0) (fun g1 vi vj wr => ∃ (i j : Nat), vi = .int .i64 i ∧ vj = .int .i64 j ∧ s0 ≤ i ∧ i ≤ j ∧ j ≤ r0 ∧ j - i ≤ g1 ∧ Aside (SW enc w0 blk off d wr) ∧ Hid (i = s0 ∨ lt2 d[p - (i - 1)]! d[i - 1]! = false) ∧ Hid (j = r0 ∨ lt2 d[p - j]! d[j]! = true))
  case atStart => exact ⟨s0, r0, by rw [← HS0.out], by rw [← HR1.out], Nat.le_refl _, f2, Nat.le_refl _, Nat.le_refl _, S0, Or.inl rfl, Or.inl rfl⟩
  case round =>
    clear S0
    obtain ⟨i, j, rfl, rfl, hsi, hij, hjr, hg1, S1, HI, HJ⟩ := hrel
    by_cases hlt : i < j
    · have hltz : (i : Int) < (j : Int) := by omega
      go_wp2
      obtain ⟨c, hcc⟩ : ∃ h : Nat, ((i : Int) + (j : Int)) / 2 = h := ⟨(i + j) / 2, by omega⟩
      have hic : i ≤ c := by omega
      have hcj : c < j := by omega
      rw [hcc]
      clear hcc
      obtain ⟨q, hq⟩ : ∃ q : Nat, q = p - c := ⟨_, rfl⟩
      have hqm : m ≤ q := by omega
      have hqb : q < b := by omega
      have hpq : (p : Int) = (q : Int) + (c : Int) := by omega
      have HPQ := Lib.hid hpq
      rw [hpq]
      clear hpq
      have pa : (0 : Int) ≤ (q : Int) := by omega
      have ba : (q : Int) < (d0.size : Int) := by omega
      have rq : IntKind.i64.wrap (q : Int) = (q : Int) := by rw [IntKind.wrap_i64]; omega
      have rq2 : IntKind.i64.wrap ((q : Int) + (c : Int) - (c : Int)) = (q : Int) := by rw [IntKind.wrap_i64]; omega
      have pc : (0 : Int) ≤ (c : Int) := by omega
      have bc : (c : Int) < (d0.size : Int) := by omega
      obtain ⟨x, hx⟩ : ∃ x, x = d[q]! := ⟨_, rfl⟩
      obtain ⟨y, hy⟩ : ∃ x, x = d[c]! := ⟨_, rfl⟩
      have l1 := S1.out.cl HR0.out HS.out.symm q (by have := HS.out; omega)
      have l2 := S1.out.cl HR0.out HS.out.symm c (by have := HS.out; omega)
      rw [← hx] at l1
      rw [← hy] at l2
      have hcmp' := S1.out.cmp HC.out HS.out.symm x y
      have hcr : ltOf cf x y = lt2 x y := by rw [hx, hy]; exact HH.out.cross c q (by omega) (by omega) hqm hqb
      have HX := Lib.hid hx
      have HY := Lib.hid hy
      have HQ := Lib.hid hq
      clear hx hy hq
      cases hlv : lt2 x y with
      | true =>
        have hv : cf x y < 0 := by rw [hlv] at hcr; exact of_decide_eq_true hcr
        have hd1 : decide (cf x y < 0) = true := decide_eq_true hv
        have HLV := Lib.hid hlv
        clear hlv hcr
        go_quiet_grown (first | (go_at_fn g; refine Calls.grown_of (hcmp' _ _)))
        have S2 : Aside (SW enc w0 blk off d (grow (wr.drewN nq) osq)) := S1.out.grown nq osq
        clear l1 l2 hcmp' S1
        generalize grow (wr.drewN nq) osq = w2 at S2 ⊢
        clear nq osq rq rq2
        rw [← HPQ.out]
        go_wp2
        go_roundg (c - i)
        case measure => omega
        case rel => exact ⟨i, c, rfl, rfl, hsi, hic, by omega, Nat.le_refl _, S2, HI, Or.inr (by rw [← HQ.out, ← HX.out, ← HY.out]; exact HLV.out)⟩
      | false =>
        have hv : ¬ cf x y < 0 := by rw [hlv] at hcr; exact of_decide_eq_false hcr
        have hd1 : decide (cf x y < 0) = false := decide_eq_false hv
        have HLV := Lib.hid hlv
        clear hlv hcr
        go_quiet_grown (first | (go_at_fn g; refine Calls.grown_of (hcmp' _ _)))
        have S2 : Aside (SW enc w0 blk off d (grow (wr.drewN nq) osq)) := S1.out.grown nq osq
        clear l1 l2 hcmp' S1
        generalize grow (wr.drewN nq) osq = w2 at S2 ⊢
        clear nq osq rq rq2
        rw [← HPQ.out]
        go_wp2
        go_roundg (j - (c + 1))
        case measure => omega
        case rel => exact ⟨c + 1, j, by go_num, rfl, by omega, by omega, hjr, Nat.le_refl _, S2, Or.inr (by rw [Nat.add_sub_cancel, ← HQ.out, ← HX.out, ← HY.out]; exact HLV.out), HJ⟩
    · obtain rfl : i = j := by omega
      obtain ⟨e, he⟩ : ∃ e : Nat, (mid : Int) + (m : Int) - (i : Int) = e := ⟨mid + m - i, by omega⟩
      have he1 : e + i ≤ mid + m := by omega
      have he2 : mid + m ≤ e + i := by omega
      have hme : m ≤ e := by omega
      have heb : e ≤ b := by omega
      have him : i ≤ m := by omega
      have himid : i ≤ mid := by omega
      have hmide : mid ≤ e := by omega
      have hai : a ≤ i := by omega
      have HE := Lib.hid he
      have hcut : Cut lt2 a i m e b d := ⟨hai, him, hme, heb, by
        rcases HI.out with h | h
        · rcases F6.out with h2 | h2
          · exact Or.inl (by omega)
          · exact Or.inr (Or.inl (by omega))
        · by_cases hi0 : i = a
          · exact Or.inl hi0
          · exact Or.inr (Or.inr (by rw [show e = p - (i - 1) by omega]; exact h)), by
        rcases HJ.out with h | h
        · rcases F7.out with h2 | h2
          · exact Or.inl (by omega)
          · exact Or.inr (Or.inl (by omega))
        · exact Or.inr (Or.inr (by rw [show e - 1 = p - i by omega]; exact h))⟩
      have HCUT := Lib.hid hcut
      have HMIDE : Hid (mid = i + (e - m)) := Lib.hid (by omega)
      clear he hcut HI HJ
      have hways : (i < m ∧ e ≤ m) ∨ (i < m ∧ m < e ∧ i ≤ a ∧ b ≤ e) ∨ (i < m ∧ m < e ∧ a < i ∧ b ≤ e) ∨ (i < m ∧ m < e ∧ a < i ∧ e < b) := by omega
      rcases hways with ⟨y1, y2⟩ | ⟨y1, y2, y3, y4⟩ | ⟨y1, y2, y3, y4⟩ | ⟨y1, y2, y3, y4⟩
      · have HRT : Hid (Rot i m e d d) := Lib.hid (by rw [show e = m by omega]; exact Rot.none_right)
        have z1 : (i : Int) < (m : Int) := by omega
        have z2 : ¬ (m : Int) < (e : Int) := by omega
        have z0 : (mid : Int) + (m : Int) - (i : Int) = (e : Int) := HE.out
        have HS1 : Hid (d0.size = d.size) := HS
        have SA : Aside (SW enc w0 blk off d wr) := S1
        have HLH := Lib.hid (left_half hS HH.out HCUT.out HRT.out HMIDE.out)
        have HRH := Lib.hid (right_half hS HH.out HCUT.out HRT.out HMIDE.out)
        have HP2 : Hid (PermIn a mid d d) := Lib.hid (permIn_refl _ _ _)
        have HSO2 : Hid (SortedIn lt2 a mid d) := Lib.hid (HLH.out.sorted (by omega))
        have HS2 : Hid (d0.size = d.size) := HS1
        have SB : Aside (SW enc w0 blk off d wr) := SA
        have z3 : (a : Int) < (i : Int) := by omega
        have z4 : ¬ (i : Int) < (mid : Int) := by omega
        have HR2 := Lib.hid (HIH.out mid e b d wr (by omega) (by omega) (by omega) (by omega) HS2.out SB.out (halves_keep hmide HRH.out HP2.out))
        have z5 : (mid : Int) < (e : Int) := by omega
        have z6 : (e : Int) < (b : Int) := by omega
        go_wp2_with fail
        refine (HR2.out).mono ?_
        rintro e0 w3 ⟨rfl, d3, p3, s3, S4⟩
        have HFIN := Lib.hid (merge_fin hS (by have := HS.out; omega) HH.out HCUT.out HRT.out HMIDE.out HP2.out HSO2.out p3 s3)
        clear p3 s3
        go_wp2
        go_end0
        exact ⟨rfl, d3, HFIN.out.1, HFIN.out.2, S4⟩
      · have hrc := rotate_sw enc (.func (.func g) #[] cb) blk off cap i m e d0 d w0 wr HR0.out HS.out S1.out y1 y2 (by have := HS.out; omega) (by have := HS.out; omega)
        rw [← HS.out] at hrc
        have HRC := Lib.hid hrc
        clear hrc
        have z1 : (i : Int) < (m : Int) := by omega
        have z2 : (m : Int) < (e : Int) := by omega
        have z0 : (mid : Int) + (m : Int) - (i : Int) = (e : Int) := HE.out
        go_wp2_with fail
        refine (HRC.out).mono ?_
        rintro e0 w1 ⟨rfl, d1, hrot, S2⟩
        have HRT := Lib.hid hrot
        have hs1 : d0.size = d1.size := by rw [hrot.size]; exact HS.out
        have HS1 := Lib.hid hs1
        have SA : Aside (SW enc w0 blk off d1 w1) := S2
        clear hrot hs1 S2
        have HLH := Lib.hid (left_half hS HH.out HCUT.out HRT.out HMIDE.out)
        have HRH := Lib.hid (right_half hS HH.out HCUT.out HRT.out HMIDE.out)
        have HP2 : Hid (PermIn a mid d1 d1) := Lib.hid (permIn_refl _ _ _)
        have HSO2 : Hid (SortedIn lt2 a mid d1) := Lib.hid (HLH.out.sorted (by omega))
        have HS2 : Hid (d0.size = d1.size) := HS1
        have SB : Aside (SW enc w0 blk off d1 w1) := SA
        have z3 : ¬ (a : Int) < (i : Int) := by omega
        have z5 : (mid : Int) < (e : Int) := by omega
        have z6 : ¬ (e : Int) < (b : Int) := by omega
        have HFIN := Lib.hid (merge_fin hS (by have := HS.out; omega) HH.out HCUT.out HRT.out HMIDE.out HP2.out HSO2.out (permIn_refl d1 mid b) ((halves_keep hmide HRH.out HP2.out).sorted (by omega)))
        go_wp2
        go_end0
        exact ⟨rfl, d1, HFIN.out.1, HFIN.out.2, SB⟩
      · have hrc := rotate_sw enc (.func (.func g) #[] cb) blk off cap i m e d0 d w0 wr HR0.out HS.out S1.out y1 y2 (by have := HS.out; omega) (by have := HS.out; omega)
        rw [← HS.out] at hrc
        have HRC := Lib.hid hrc
        clear hrc
        have z1 : (i : Int) < (m : Int) := by omega
        have z2 : (m : Int) < (e : Int) := by omega
        have z0 : (mid : Int) + (m : Int) - (i : Int) = (e : Int) := HE.out
        go_wp2_with fail
        refine (HRC.out).mono ?_
        rintro e0 w1 ⟨rfl, d1, hrot, S2⟩
        have HRT := Lib.hid hrot
        have hs1 : d0.size = d1.size := by rw [hrot.size]; exact HS.out
        have HS1 := Lib.hid hs1
        have SA : Aside (SW enc w0 blk off d1 w1) := S2
        clear hrot hs1 S2
        have HLH := Lib.hid (left_half hS HH.out HCUT.out HRT.out HMIDE.out)
        have HRH := Lib.hid (right_half hS HH.out HCUT.out HRT.out HMIDE.out)
        have HL := Lib.hid (HIH.out a i mid d1 w1 (by omega) (by omega) (by omega) (by omega) HS1.out SA.out HLH.out)
        have z3 : (a : Int) < (i : Int) := by omega
        have z4 : (i : Int) < (mid : Int) := by omega
        go_wp2_with fail
        refine (HL.out).mono ?_
        rintro e0 w2 ⟨rfl, d2, p2, s2, S3⟩
        have hs2 : d0.size = d2.size := by rw [p2.1]; exact HS1.out
        have HS2 := Lib.hid hs2
        have HP2 := Lib.hid p2
        have HSO2 := Lib.hid s2
        have SB : Aside (SW enc w0 blk off d2 w2) := S3
        clear hs2 p2 s2 S3
        have z5 : (mid : Int) < (e : Int) := by omega
        have z6 : ¬ (e : Int) < (b : Int) := by omega
        have HFIN := Lib.hid (merge_fin hS (by have := HS.out; omega) HH.out HCUT.out HRT.out HMIDE.out HP2.out HSO2.out (permIn_refl d2 mid b) ((halves_keep hmide HRH.out HP2.out).sorted (by omega)))
        go_wp2
        go_end0
        exact ⟨rfl, d2, HFIN.out.1, HFIN.out.2, SB⟩
      · have hrc := rotate_sw enc (.func (.func g) #[] cb) blk off cap i m e d0 d w0 wr HR0.out HS.out S1.out y1 y2 (by have := HS.out; omega) (by have := HS.out; omega)
        rw [← HS.out] at hrc
        have HRC := Lib.hid hrc
        clear hrc
        have z1 : (i : Int) < (m : Int) := by omega
        have z2 : (m : Int) < (e : Int) := by omega
        have z0 : (mid : Int) + (m : Int) - (i : Int) = (e : Int) := HE.out
        go_wp2_with fail
        refine (HRC.out).mono ?_
        rintro e0 w1 ⟨rfl, d1, hrot, S2⟩
        have HRT := Lib.hid hrot
        have hs1 : d0.size = d1.size := by rw [hrot.size]; exact HS.out
        have HS1 := Lib.hid hs1
        have SA : Aside (SW enc w0 blk off d1 w1) := S2
        clear hrot hs1 S2
        have HLH := Lib.hid (left_half hS HH.out HCUT.out HRT.out HMIDE.out)
        have HRH := Lib.hid (right_half hS HH.out HCUT.out HRT.out HMIDE.out)
        have HL := Lib.hid (HIH.out a i mid d1 w1 (by omega) (by omega) (by omega) (by omega) HS1.out SA.out HLH.out)
        have z3 : (a : Int) < (i : Int) := by omega
        have z4 : (i : Int) < (mid : Int) := by omega
        go_wp2_with fail
        refine (HL.out).mono ?_
        rintro e0 w2 ⟨rfl, d2, p2, s2, S3⟩
        have hs2 : d0.size = d2.size := by rw [p2.1]; exact HS1.out
        have HS2 := Lib.hid hs2
        have HP2 := Lib.hid p2
        have HSO2 := Lib.hid s2
        have SB : Aside (SW enc w0 blk off d2 w2) := S3
        clear hs2 p2 s2 S3
        have HR2 := Lib.hid (HIH.out mid e b d2 w2 (by omega) (by omega) (by omega) (by omega) HS2.out SB.out (halves_keep hmide HRH.out HP2.out))
        have z5 : (mid : Int) < (e : Int) := by omega
        have z6 : (e : Int) < (b : Int) := by omega
        go_wp2_with fail
        refine (HR2.out).mono ?_
        rintro e0 w3 ⟨rfl, d3, p3, s3, S4⟩
        have HFIN := Lib.hid (merge_fin hS (by have := HS.out; omega) HH.out HCUT.out HRT.out HMIDE.out HP2.out HSO2.out p3 s3)
        clear p3 s3
        go_wp2
        go_end0
        exact ⟨rfl, d3, HFIN.out.1, HFIN.out.2, S4⟩

set_option maxHeartbeats 4000000 in
set_option maxRecDepth 100000 in
theorem merge_high (enc : α → Value) (cf : α → α → Int) (lt2 : α → α → Bool) (hS : SWO lt2) (g : Nat) (cb : Array Value) (blk off cap : Nat) (d0 : Array α) (w0 : World)
    (eg : ∀ args w, (callFunc g args).run Try.prog w = .ok (.enter g args) w) (hcmp : CmpLays1 Try.prog g cb enc cf blk off d0.size w0) (R : Row1 enc w0 blk off d0) (hsz : d0.size < 4611686018427387904)
    (k a m b mid : Nat) (d : Array α) (w : World) (hk : b - a ≤ k + 1) (ham : a + 1 < m) (hmb : m + 1 < b) (hb : b ≤ d0.size) (hs : d0.size = d.size) (S : SW enc w0 blk off d w) (hH : Halves (ltOf cf) lt2 a m b d)
    (ih : MergeSaid enc cf lt2 g cb blk off cap d0 w0 k) (hmid : ((a : Int) + (b : Int)) / 2 = mid) (hc : m ≤ mid) :
    Calls Try.prog 40 #[.slice (some ⟨blk, off, none⟩) d0.size cap, .int .i64 a, .int .i64 m, .int .i64 b, .func (.func g) #[] cb] w (Merged enc lt2 w0 blk off a b d) := by
  have hcl0 := R.hO.cells
  simp only [Value.cells] at hcl0
  have mixed : Try.prog.follows .mixedOrders = true := by kernel_rfl
  have S0 : Aside (SW enc w0 blk off d w) := S
  have HC : Aside _ := hcmp
  have HH := Lib.hid hH
  have HIH := Lib.hid ih
  have HR0 : Aside (Row1 enc w0 blk off d0) := R
  have HS := Lib.hid hs
  have hm1 : a + b ≤ 2 * mid + 1 := by omega
  have hm2 : 2 * mid ≤ a + b := by omega
  have HMID := Lib.hid hmid
  clear S hcmp hH ih R hs hmid
  have e1 : ((m : Int) - (a : Int) == 1) = false := by rw [beq_eq_false_iff_ne]; omega
  have e2 : ((b : Int) - (m : Int) == 1) = false := by rw [beq_eq_false_iff_ne]; omega
  have hcz : ¬ ((a : Int) + (b : Int)) / 2 < (m : Int) := by omega
  have hcz' : ¬ (mid : Int) < (m : Int) := by omega
  go_enter Try.func40, Try.ntmps40
  go_wp2
  rw [HMID.out]
  obtain ⟨p, hp⟩ : ∃ p : Nat, (mid : Int) + (m : Int) - 1 = p := ⟨mid + m - 1, by omega⟩
  rw [hp]
  have hp1 : p + 1 ≤ mid + m := by omega
  have hp2 : mid + m ≤ p + 1 := by omega
  clear hp
  obtain ⟨s0, hs0⟩ : ∃ q : Nat, q = a := ⟨_, rfl⟩
  obtain ⟨r0, hr0⟩ : ∃ q : Nat, q = m := ⟨_, rfl⟩
  have f1 : a ≤ s0 := by omega
  have f2 : s0 ≤ r0 := by omega
  have f3 : r0 ≤ m := by omega
  have f4 : r0 ≤ mid := by omega
  have f5 : mid + m ≤ b + s0 := by omega
  have F6 : Hid (s0 = a ∨ mid + m = b + s0) := Or.inl (by omega)
  have F7 : Hid (r0 = m ∨ r0 = mid) := Or.inl (by omega)
  have HS0 : Hid ((a : Int) = (s0 : Int)) := Lib.hid (by omega)
  have HR1 : Hid ((m : Int) = (r0 : Int)) := Lib.hid (by omega)
  clear hs0 hr0
  go_loopg [20, 21] (r0 - s0) (fun g1 vi vj wr => ∃ (i j : Nat), vi = .int .i64 i ∧ vj = .int .i64 j ∧ s0 ≤ i ∧ i ≤ j ∧ j ≤ r0 ∧ j - i ≤ g1 ∧ Aside (SW enc w0 blk off d wr) ∧ Hid (i = s0 ∨ lt2 d[p - (i - 1)]! d[i - 1]! = false) ∧ Hid (j = r0 ∨ lt2 d[p - j]! d[j]! = true))
  case atStart => exact ⟨s0, r0, by rw [← HS0.out], by rw [← HR1.out], Nat.le_refl _, f2, Nat.le_refl _, Nat.le_refl _, S0, Or.inl rfl, Or.inl rfl⟩
  case round =>
    clear S0
    obtain ⟨i, j, rfl, rfl, hsi, hij, hjr, hg1, S1, HI, HJ⟩ := hrel
    by_cases hlt : i < j
    · have hltz : (i : Int) < (j : Int) := by omega
      go_wp2
      obtain ⟨c, hcc⟩ : ∃ h : Nat, ((i : Int) + (j : Int)) / 2 = h := ⟨(i + j) / 2, by omega⟩
      have hic : i ≤ c := by omega
      have hcj : c < j := by omega
      rw [hcc]
      clear hcc
      obtain ⟨q, hq⟩ : ∃ q : Nat, q = p - c := ⟨_, rfl⟩
      have hqm : m ≤ q := by omega
      have hqb : q < b := by omega
      have hpq : (p : Int) = (q : Int) + (c : Int) := by omega
      have HPQ := Lib.hid hpq
      rw [hpq]
      clear hpq
      have pa : (0 : Int) ≤ (q : Int) := by omega
      have ba : (q : Int) < (d0.size : Int) := by omega
      have rq : IntKind.i64.wrap (q : Int) = (q : Int) := by rw [IntKind.wrap_i64]; omega
      have rq2 : IntKind.i64.wrap ((q : Int) + (c : Int) - (c : Int)) = (q : Int) := by rw [IntKind.wrap_i64]; omega
      have pc : (0 : Int) ≤ (c : Int) := by omega
      have bc : (c : Int) < (d0.size : Int) := by omega
      obtain ⟨x, hx⟩ : ∃ x, x = d[q]! := ⟨_, rfl⟩
      obtain ⟨y, hy⟩ : ∃ x, x = d[c]! := ⟨_, rfl⟩
      have l1 := S1.out.cl HR0.out HS.out.symm q (by have := HS.out; omega)
      have l2 := S1.out.cl HR0.out HS.out.symm c (by have := HS.out; omega)
      rw [← hx] at l1
      rw [← hy] at l2
      have hcmp' := S1.out.cmp HC.out HS.out.symm x y
      have hcr : ltOf cf x y = lt2 x y := by rw [hx, hy]; exact HH.out.cross c q (by omega) (by omega) hqm hqb
      have HX := Lib.hid hx
      have HY := Lib.hid hy
      have HQ := Lib.hid hq
      clear hx hy hq
      cases hlv : lt2 x y with
      | true =>
        have hv : cf x y < 0 := by rw [hlv] at hcr; exact of_decide_eq_true hcr
        have hd1 : decide (cf x y < 0) = true := decide_eq_true hv
        have HLV := Lib.hid hlv
        clear hlv hcr
        go_quiet_grown (first | (go_at_fn g; refine Calls.grown_of (hcmp' _ _)))
        have S2 : Aside (SW enc w0 blk off d (grow (wr.drewN nq) osq)) := S1.out.grown nq osq
        clear l1 l2 hcmp' S1
        generalize grow (wr.drewN nq) osq = w2 at S2 ⊢
        clear nq osq rq rq2
        rw [← HPQ.out]
        go_wp2
        go_roundg (c - i)
        case measure => omega
        case rel => exact ⟨i, c, rfl, rfl, hsi, hic, by omega, Nat.le_refl _, S2, HI, Or.inr (by rw [← HQ.out, ← HX.out, ← HY.out]; exact HLV.out)⟩
      | false =>
        have hv : ¬ cf x y < 0 := by rw [hlv] at hcr; exact of_decide_eq_false hcr
        have hd1 : decide (cf x y < 0) = false := decide_eq_false hv
        have HLV := Lib.hid hlv
        clear hlv hcr
        go_quiet_grown (first | (go_at_fn g; refine Calls.grown_of (hcmp' _ _)))
        have S2 : Aside (SW enc w0 blk off d (grow (wr.drewN nq) osq)) := S1.out.grown nq osq
        clear l1 l2 hcmp' S1
        generalize grow (wr.drewN nq) osq = w2 at S2 ⊢
        clear nq osq rq rq2
        rw [← HPQ.out]
        go_wp2
        go_roundg (j - (c + 1))
        case measure => omega
        case rel => exact ⟨c + 1, j, by go_num, rfl, by omega, by omega, hjr, Nat.le_refl _, S2, Or.inr (by rw [Nat.add_sub_cancel, ← HQ.out, ← HX.out, ← HY.out]; exact HLV.out), HJ⟩
    · obtain rfl : i = j := by omega
      obtain ⟨e, he⟩ : ∃ e : Nat, (mid : Int) + (m : Int) - (i : Int) = e := ⟨mid + m - i, by omega⟩
      have he1 : e + i ≤ mid + m := by omega
      have he2 : mid + m ≤ e + i := by omega
      have hme : m ≤ e := by omega
      have heb : e ≤ b := by omega
      have him : i ≤ m := by omega
      have himid : i ≤ mid := by omega
      have hmide : mid ≤ e := by omega
      have hai : a ≤ i := by omega
      have HE := Lib.hid he
      have hcut : Cut lt2 a i m e b d := ⟨hai, him, hme, heb, by
        rcases HI.out with h | h
        · rcases F6.out with h2 | h2
          · exact Or.inl (by omega)
          · exact Or.inr (Or.inl (by omega))
        · by_cases hi0 : i = a
          · exact Or.inl hi0
          · exact Or.inr (Or.inr (by rw [show e = p - (i - 1) by omega]; exact h)), by
        rcases HJ.out with h | h
        · rcases F7.out with h2 | h2
          · exact Or.inl (by omega)
          · exact Or.inr (Or.inl (by omega))
        · exact Or.inr (Or.inr (by rw [show e - 1 = p - i by omega]; exact h))⟩
      have HCUT := Lib.hid hcut
      have HMIDE : Hid (mid = i + (e - m)) := Lib.hid (by omega)
      clear he hcut HI HJ
      have hways : (m ≤ i ∧ m < mid) ∨ (m ≤ i ∧ mid ≤ m) ∨ (i < m ∧ m < e ∧ i ≤ a ∧ b ≤ e) ∨ (i < m ∧ m < e ∧ i ≤ a ∧ e < b) ∨ (i < m ∧ m < e ∧ a < i ∧ e < b) := by omega
      rcases hways with ⟨y1, y2⟩ | ⟨y1, y2⟩ | ⟨y1, y2, y3, y4⟩ | ⟨y1, y2, y3, y4⟩ | ⟨y1, y2, y3, y4⟩
      · have HRT : Hid (Rot i m e d d) := Lib.hid (by rw [show m = i by omega]; exact Rot.none_left)
        have z1 : ¬ (i : Int) < (m : Int) := by omega
        have z0 : (mid : Int) + (m : Int) - (i : Int) = (e : Int) := HE.out
        have HS1 : Hid (d0.size = d.size) := HS
        have SA : Aside (SW enc w0 blk off d wr) := S1
        have HLH := Lib.hid (left_half hS HH.out HCUT.out HRT.out HMIDE.out)
        have HRH := Lib.hid (right_half hS HH.out HCUT.out HRT.out HMIDE.out)
        have HL := Lib.hid (HIH.out a i mid d wr (by omega) (by omega) (by omega) (by omega) HS1.out SA.out HLH.out)
        have z3 : (a : Int) < (i : Int) := by omega
        have z4 : (i : Int) < (mid : Int) := by omega
        go_wp2_with fail
        refine (HL.out).mono ?_
        rintro e0 w2 ⟨rfl, d2, p2, s2, S3⟩
        have hs2 : d0.size = d2.size := by rw [p2.1]; exact HS1.out
        have HS2 := Lib.hid hs2
        have HP2 := Lib.hid p2
        have HSO2 := Lib.hid s2
        have SB : Aside (SW enc w0 blk off d2 w2) := S3
        clear hs2 p2 s2 S3
        have z5 : ¬ (mid : Int) < (e : Int) := by omega
        have HFIN := Lib.hid (merge_fin hS (by have := HS.out; omega) HH.out HCUT.out HRT.out HMIDE.out HP2.out HSO2.out (permIn_refl d2 mid b) ((halves_keep hmide HRH.out HP2.out).sorted (by omega)))
        go_wp2
        go_end0
        exact ⟨rfl, d2, HFIN.out.1, HFIN.out.2, SB⟩
      · have HRT : Hid (Rot i m e d d) := Lib.hid (by rw [show m = i by omega]; exact Rot.none_left)
        have z1 : ¬ (i : Int) < (m : Int) := by omega
        have z0 : (mid : Int) + (m : Int) - (i : Int) = (e : Int) := HE.out
        have HS1 : Hid (d0.size = d.size) := HS
        have SA : Aside (SW enc w0 blk off d wr) := S1
        have HLH := Lib.hid (left_half hS HH.out HCUT.out HRT.out HMIDE.out)
        have HRH := Lib.hid (right_half hS HH.out HCUT.out HRT.out HMIDE.out)
        have HP2 : Hid (PermIn a mid d d) := Lib.hid (permIn_refl _ _ _)
        have HSO2 : Hid (SortedIn lt2 a mid d) := Lib.hid (HLH.out.sorted (by omega))
        have HS2 : Hid (d0.size = d.size) := HS1
        have SB : Aside (SW enc w0 blk off d wr) := SA
        have z3 : (a : Int) < (i : Int) := by omega
        have z4 : ¬ (i : Int) < (mid : Int) := by omega
        have z5 : ¬ (mid : Int) < (e : Int) := by omega
        have HFIN := Lib.hid (merge_fin hS (by have := HS.out; omega) HH.out HCUT.out HRT.out HMIDE.out HP2.out HSO2.out (permIn_refl d mid b) ((halves_keep hmide HRH.out HP2.out).sorted (by omega)))
        go_wp2
        go_end0
        exact ⟨rfl, d, HFIN.out.1, HFIN.out.2, SB⟩
      · have hrc := rotate_sw enc (.func (.func g) #[] cb) blk off cap i m e d0 d w0 wr HR0.out HS.out S1.out y1 y2 (by have := HS.out; omega) (by have := HS.out; omega)
        rw [← HS.out] at hrc
        have HRC := Lib.hid hrc
        clear hrc
        have z1 : (i : Int) < (m : Int) := by omega
        have z2 : (m : Int) < (e : Int) := by omega
        have z0 : (mid : Int) + (m : Int) - (i : Int) = (e : Int) := HE.out
        go_wp2_with fail
        refine (HRC.out).mono ?_
        rintro e0 w1 ⟨rfl, d1, hrot, S2⟩
        have HRT := Lib.hid hrot
        have hs1 : d0.size = d1.size := by rw [hrot.size]; exact HS.out
        have HS1 := Lib.hid hs1
        have SA : Aside (SW enc w0 blk off d1 w1) := S2
        clear hrot hs1 S2
        have HLH := Lib.hid (left_half hS HH.out HCUT.out HRT.out HMIDE.out)
        have HRH := Lib.hid (right_half hS HH.out HCUT.out HRT.out HMIDE.out)
        have HP2 : Hid (PermIn a mid d1 d1) := Lib.hid (permIn_refl _ _ _)
        have HSO2 : Hid (SortedIn lt2 a mid d1) := Lib.hid (HLH.out.sorted (by omega))
        have HS2 : Hid (d0.size = d1.size) := HS1
        have SB : Aside (SW enc w0 blk off d1 w1) := SA
        have z3 : ¬ (a : Int) < (i : Int) := by omega
        have z5 : (mid : Int) < (e : Int) := by omega
        have z6 : ¬ (e : Int) < (b : Int) := by omega
        have HFIN := Lib.hid (merge_fin hS (by have := HS.out; omega) HH.out HCUT.out HRT.out HMIDE.out HP2.out HSO2.out (permIn_refl d1 mid b) ((halves_keep hmide HRH.out HP2.out).sorted (by omega)))
        go_wp2
        go_end0
        exact ⟨rfl, d1, HFIN.out.1, HFIN.out.2, SB⟩
      · have hrc := rotate_sw enc (.func (.func g) #[] cb) blk off cap i m e d0 d w0 wr HR0.out HS.out S1.out y1 y2 (by have := HS.out; omega) (by have := HS.out; omega)
        rw [← HS.out] at hrc
        have HRC := Lib.hid hrc
        clear hrc
        have z1 : (i : Int) < (m : Int) := by omega
        have z2 : (m : Int) < (e : Int) := by omega
        have z0 : (mid : Int) + (m : Int) - (i : Int) = (e : Int) := HE.out
        go_wp2_with fail
        refine (HRC.out).mono ?_
        rintro e0 w1 ⟨rfl, d1, hrot, S2⟩
        have HRT := Lib.hid hrot
        have hs1 : d0.size = d1.size := by rw [hrot.size]; exact HS.out
        have HS1 := Lib.hid hs1
        have SA : Aside (SW enc w0 blk off d1 w1) := S2
        clear hrot hs1 S2
        have HLH := Lib.hid (left_half hS HH.out HCUT.out HRT.out HMIDE.out)
        have HRH := Lib.hid (right_half hS HH.out HCUT.out HRT.out HMIDE.out)
        have HP2 : Hid (PermIn a mid d1 d1) := Lib.hid (permIn_refl _ _ _)
        have HSO2 : Hid (SortedIn lt2 a mid d1) := Lib.hid (HLH.out.sorted (by omega))
        have HS2 : Hid (d0.size = d1.size) := HS1
        have SB : Aside (SW enc w0 blk off d1 w1) := SA
        have z3 : ¬ (a : Int) < (i : Int) := by omega
        have HR2 := Lib.hid (HIH.out mid e b d1 w1 (by omega) (by omega) (by omega) (by omega) HS2.out SB.out (halves_keep hmide HRH.out HP2.out))
        have z5 : (mid : Int) < (e : Int) := by omega
        have z6 : (e : Int) < (b : Int) := by omega
        go_wp2_with fail
        refine (HR2.out).mono ?_
        rintro e0 w3 ⟨rfl, d3, p3, s3, S4⟩
        have HFIN := Lib.hid (merge_fin hS (by have := HS.out; omega) HH.out HCUT.out HRT.out HMIDE.out HP2.out HSO2.out p3 s3)
        clear p3 s3
        go_wp2
        go_end0
        exact ⟨rfl, d3, HFIN.out.1, HFIN.out.2, S4⟩
      · have hrc := rotate_sw enc (.func (.func g) #[] cb) blk off cap i m e d0 d w0 wr HR0.out HS.out S1.out y1 y2 (by have := HS.out; omega) (by have := HS.out; omega)
        rw [← HS.out] at hrc
        have HRC := Lib.hid hrc
        clear hrc
        have z1 : (i : Int) < (m : Int) := by omega
        have z2 : (m : Int) < (e : Int) := by omega
        have z0 : (mid : Int) + (m : Int) - (i : Int) = (e : Int) := HE.out
        go_wp2_with fail
        refine (HRC.out).mono ?_
        rintro e0 w1 ⟨rfl, d1, hrot, S2⟩
        have HRT := Lib.hid hrot
        have hs1 : d0.size = d1.size := by rw [hrot.size]; exact HS.out
        have HS1 := Lib.hid hs1
        have SA : Aside (SW enc w0 blk off d1 w1) := S2
        clear hrot hs1 S2
        have HLH := Lib.hid (left_half hS HH.out HCUT.out HRT.out HMIDE.out)
        have HRH := Lib.hid (right_half hS HH.out HCUT.out HRT.out HMIDE.out)
        have HL := Lib.hid (HIH.out a i mid d1 w1 (by omega) (by omega) (by omega) (by omega) HS1.out SA.out HLH.out)
        have z3 : (a : Int) < (i : Int) := by omega
        have z4 : (i : Int) < (mid : Int) := by omega
        go_wp2_with fail
        refine (HL.out).mono ?_
        rintro e0 w2 ⟨rfl, d2, p2, s2, S3⟩
        have hs2 : d0.size = d2.size := by rw [p2.1]; exact HS1.out
        have HS2 := Lib.hid hs2
        have HP2 := Lib.hid p2
        have HSO2 := Lib.hid s2
        have SB : Aside (SW enc w0 blk off d2 w2) := S3
        clear hs2 p2 s2 S3
        have HR2 := Lib.hid (HIH.out mid e b d2 w2 (by omega) (by omega) (by omega) (by omega) HS2.out SB.out (halves_keep hmide HRH.out HP2.out))
        have z5 : (mid : Int) < (e : Int) := by omega
        have z6 : (e : Int) < (b : Int) := by omega
        go_wp2_with fail
        refine (HR2.out).mono ?_
        rintro e0 w3 ⟨rfl, d3, p3, s3, S4⟩
        have HFIN := Lib.hid (merge_fin hS (by have := HS.out; omega) HH.out HCUT.out HRT.out HMIDE.out HP2.out HSO2.out p3 s3)
        clear p3 s3
        go_wp2
        go_end0
        exact ⟨rfl, d3, HFIN.out.1, HFIN.out.2, S4⟩

/-- slices.symMergeCmpFunc: two sorted halves are merged. -/
theorem symMerge_sw (enc : α → Value) (cf : α → α → Int) (lt2 : α → α → Bool) (hS : SWO lt2) (g : Nat) (cb : Array Value) (blk off cap : Nat) (d0 : Array α) (w0 : World)
    (eg : ∀ args w, (callFunc g args).run Try.prog w = .ok (.enter g args) w) (hcmp : CmpLays1 Try.prog g cb enc cf blk off d0.size w0) (R : Row1 enc w0 blk off d0) (hsz : d0.size < 4611686018427387904) : ∀ k, MergeSaid enc cf lt2 g cb blk off cap d0 w0 k
  | 0 => fun a m b d w hk ham hmb hb hs S hH => by omega
  | k + 1 => fun a m b d w hk ham hmb hb hs S hH => by
    have ih := symMerge_sw enc cf lt2 hS g cb blk off cap d0 w0 eg hcmp R hsz k
    by_cases h1 : m = a + 1
    · rw [hs]
      exact merge_left enc cf lt2 hS g cb blk off cap a m b d0 d w0 w eg hcmp R hs S h1 hmb (by omega) (by omega) hH
    · by_cases h2 : b = m + 1
      · rw [hs]
        exact merge_right enc cf lt2 hS g cb blk off cap a m b d0 d w0 w eg hcmp R hs S (by omega) h2 (by omega) (by omega) hH
      · by_cases h3 : (a + b) / 2 < m
        · exact merge_low enc cf lt2 hS g cb blk off cap d0 w0 eg hcmp R hsz k a m b ((a + b) / 2) d w hk (by omega) (by omega) hb hs S hH ih (by omega) h3
        · exact merge_high enc cf lt2 hS g cb blk off cap d0 w0 eg hcmp R hsz k a m b ((a + b) / 2) d w hk (by omega) (by omega) hb hs S hH ih (by omega) (by omega)

end Go.Proofs.Ytbndcjbnpgdpjaa
