/- The contract of the article's reference's Plain, of articles that have the fields of their kinds alone: whether these are in their ranges. -/
import Derived.Test.YtdgckdmgplpobaaGreatDoorMRused
import Derived.Test.YtdgckdmgplpobaaGreatDoorMG5
import Derived.Test.YtdgckdmgplpobaaGreatDoorMG7
import Derived.Deep.RegionHeld3
set_option linter.unusedSimpArgs false
set_option linter.unusedVariables false
namespace Go.Proofs.YtdgckdmgplpobaaGreatDoor
open Go.RowKit Go.Lib Go.Proofs

set_option maxRecDepth 100000 in
set_option maxHeartbeats 8000000 in
theorem rpg_amend1 (cd : ByteArray) (yr : Int) (am : Int) (nu : Int) (dy : Int) (hz : cd.size ≤ 1000000 ∧ True) (w : World) :
    Calls Tryz.prog 11 #[.agg #[.int .i64 10, .string cd, .string ⟨#[]⟩, .string ⟨#[]⟩, .int .i64 yr, .int .i64 am, .int .i64 0, .int .i64 nu, .int .i64 dy, .int .i64 0, .int .i64 1]] w fun e w' => e = .returned (.bool (chkB ⟨10, cd, ⟨#[]⟩, ⟨#[]⟩, yr, am, 0, nu, dy, 0, 1⟩)) ∧ Below w.heap.size w w' := by
  have hq : ∀ W, (binOp .neq 24 (.agg #[.int .i64 10, .string cd, .string ⟨#[]⟩, .string ⟨#[]⟩, .int .i64 yr, .int .i64 am, .int .i64 0, .int .i64 nu, .int .i64 dy, .int .i64 0, .int .i64 1]) (.agg #[.int .i64 10, .string cd, .string ⟨#[]⟩, .string ⟨#[]⟩, .int .i64 yr, .int .i64 am, .int .i64 0, .int .i64 nu, .int .i64 dy, .int .i64 0, .int .i64 1])).run Tryz.prog W = .ok (.bool false) W := fun W => art_same W ⟨10, cd, ⟨#[]⟩, ⟨#[]⟩, yr, am, 0, nu, dy, 0, 1⟩
  have HU := Lib.hid (fun W => rused_10 cd ⟨#[]⟩ ⟨#[]⟩ yr am 0 nu dy 0 1 W)
  obtain ⟨R, hR⟩ : ∃ R, R = chkB ⟨10, cd, ⟨#[]⟩, ⟨#[]⟩, yr, am, 0, nu, dy, 0, 1⟩ := ⟨_, rfl⟩
  rw [← hR]
  have HR := Lib.hid hR
  have HZ := Lib.hid hz
  clear hR hz
  go_enter Tryz.func11, Tryz.ntmps11
  go_upto_region 1 with fail
  have hb0 : Below (w.heap.size + 1) (w.alloc (.cells #[.int .i64 10, .string cd, .string ⟨#[]⟩, .string ⟨#[]⟩, .int .i64 yr, .int .i64 am, .int .i64 0, .int .i64 nu, .int .i64 dy, .int .i64 0, .int .i64 1] 24)) (w.alloc (.cells #[.int .i64 10, .string cd, .string ⟨#[]⟩, .string ⟨#[]⟩, .int .i64 yr, .int .i64 am, .int .i64 0, .int .i64 nu, .int .i64 dy, .int .i64 0, .int .i64 1] 24)) := Below.refl _ _
  go_region_held3 (fun W => ∀ j, W.cell? ⟨w.heap.size, j, none⟩ = #[.int .i64 10, .string cd, .string ⟨#[]⟩, .string ⟨#[]⟩, .int .i64 yr, .int .i64 am, .int .i64 0, .int .i64 nu, .int .i64 dy, .int .i64 0, .int .i64 1][j]?) (first | exact boxg_below (by assumption) | exact boxg_below (Below.drew (by assumption)))
    (first | (go_at_call 29; (with_reducible refine (HU.out _).mono ?_); rintro e w1 ⟨rfl, hb1'⟩; (have hb1 : Below (w.heap.size + 1) (w.alloc (.cells #[.int .i64 10, .string cd, .string ⟨#[]⟩, .string ⟨#[]⟩, .int .i64 yr, .int .i64 am, .int .i64 0, .int .i64 nu, .int .i64 dy, .int .i64 0, .int .i64 1] 24)) w1 := (by first | exact hb0.trans (hb1'.mono (by simp)) | exact hb0.drew.trans (hb1'.mono (by simp)))); clear hb1'))
  have HB : Hid (Below (w.heap.size + 1) (w.alloc (.cells #[.int .i64 10, .string cd, .string ⟨#[]⟩, .string ⟨#[]⟩, .int .i64 yr, .int .i64 am, .int .i64 0, .int .i64 nu, .int .i64 dy, .int .i64 0, .int .i64 1] 24)) w1) := Lib.hid (by assumption)
  have u := boxg_below HB.out
  clear hb0 HU hq
  cases hc : isCodeB cd with
  | false =>
    have hres : R = false := HR.out.trans (by simp [chkB, hc])
    subst hres
    go_wp2_with (first
      | (go_at_call 30; (first | with_reducible refine (raryear_is _ hy).mono ?_ | with_reducible refine (raryear_is (b := true) _ (by decide)).mono ?_); rintro e wq ⟨rfl, rfl⟩)
      | (go_at_call 36; with_reducible refine (rarnumber_is _ hn).mono ?_; rintro e wq ⟨rfl, rfl⟩)
      | (go_at_call 34; with_reducible refine (rarpercent_is _ hp).mono ?_; rintro e wq ⟨rfl, rfl⟩)
      | (go_at_call 35; with_reducible refine (rarday_is _ hd).mono ?_; rintro e wq ⟨rfl, rfl⟩)
      | (go_at_call 33; (first | with_reducible refine (rmValid_is _ ha).mono ?_ | with_reducible refine (rmValid_is _ hl).mono ?_); rintro e wq ⟨rfl, rfl⟩)
      | (go_at_call 32; refine (rclValid_is nm _ HZ.out.2 hv).mono ?_; rintro e wq ⟨rfl, hq⟩; (have hsz := HB.out.size); (rw [World.size_alloc] at hsz); replace HB := Lib.hid ((HB.out.alloc hsz _).trans (hq.mono (by rw [World.size_alloc]; omega))); clear hsz hq)
      | (go_at_call 31; (first | with_reducible refine (rarcode_is _ HZ.out.1 hc).mono ?_ | with_reducible refine (rarcode_is _ HZ.out.2 ho).mono ?_); rintro e wq ⟨rfl, hq⟩; (have hsz := HB.out.size); (rw [World.size_alloc] at hsz); replace HB := Lib.hid (HB.out.trans (hq.mono hsz)); clear hsz; have u := boxg_below HB.out; clear hq))
    go_ret
    exact ⟨by first | rfl | (simp; omega), (below_alloc w _).trans (HB.out.mono (Nat.le_succ _))⟩
  | true =>
    by_cases hm : yr = -1
    · subst hm
      have hy : inB (-1) 0 99 = false := by decide
      cases hd : inB dy 0 35990 with
      | false =>
        have hres : R = false := HR.out.trans (by simp [chkB, hc, hy, hd])
        subst hres
        go_wp2_with (first
          | (go_at_call 30; (first | with_reducible refine (raryear_is _ hy).mono ?_ | with_reducible refine (raryear_is (b := true) _ (by decide)).mono ?_); rintro e wq ⟨rfl, rfl⟩)
          | (go_at_call 36; with_reducible refine (rarnumber_is _ hn).mono ?_; rintro e wq ⟨rfl, rfl⟩)
          | (go_at_call 34; with_reducible refine (rarpercent_is _ hp).mono ?_; rintro e wq ⟨rfl, rfl⟩)
          | (go_at_call 35; with_reducible refine (rarday_is _ hd).mono ?_; rintro e wq ⟨rfl, rfl⟩)
          | (go_at_call 33; (first | with_reducible refine (rmValid_is _ ha).mono ?_ | with_reducible refine (rmValid_is _ hl).mono ?_); rintro e wq ⟨rfl, rfl⟩)
          | (go_at_call 32; refine (rclValid_is nm _ HZ.out.2 hv).mono ?_; rintro e wq ⟨rfl, hq⟩; (have hsz := HB.out.size); (rw [World.size_alloc] at hsz); replace HB := Lib.hid ((HB.out.alloc hsz _).trans (hq.mono (by rw [World.size_alloc]; omega))); clear hsz hq)
          | (go_at_call 31; (first | with_reducible refine (rarcode_is _ HZ.out.1 hc).mono ?_ | with_reducible refine (rarcode_is _ HZ.out.2 ho).mono ?_); rintro e wq ⟨rfl, hq⟩; (have hsz := HB.out.size); (rw [World.size_alloc] at hsz); replace HB := Lib.hid (HB.out.trans (hq.mono hsz)); clear hsz; have u := boxg_below HB.out; clear hq))
        go_ret
        exact ⟨by first | rfl | (simp; omega), (below_alloc w _).trans (HB.out.mono (Nat.le_succ _))⟩
      | true =>
        cases hn : inB nu 1 1000000 with
        | false =>
          have hres : R = false := HR.out.trans (by simp [chkB, hc, hy, hd, hn])
          subst hres
          go_wp2_with (first
            | (go_at_call 30; (first | with_reducible refine (raryear_is _ hy).mono ?_ | with_reducible refine (raryear_is (b := true) _ (by decide)).mono ?_); rintro e wq ⟨rfl, rfl⟩)
            | (go_at_call 36; with_reducible refine (rarnumber_is _ hn).mono ?_; rintro e wq ⟨rfl, rfl⟩)
            | (go_at_call 34; with_reducible refine (rarpercent_is _ hp).mono ?_; rintro e wq ⟨rfl, rfl⟩)
            | (go_at_call 35; with_reducible refine (rarday_is _ hd).mono ?_; rintro e wq ⟨rfl, rfl⟩)
            | (go_at_call 33; (first | with_reducible refine (rmValid_is _ ha).mono ?_ | with_reducible refine (rmValid_is _ hl).mono ?_); rintro e wq ⟨rfl, rfl⟩)
            | (go_at_call 32; refine (rclValid_is nm _ HZ.out.2 hv).mono ?_; rintro e wq ⟨rfl, hq⟩; (have hsz := HB.out.size); (rw [World.size_alloc] at hsz); replace HB := Lib.hid ((HB.out.alloc hsz _).trans (hq.mono (by rw [World.size_alloc]; omega))); clear hsz hq)
            | (go_at_call 31; (first | with_reducible refine (rarcode_is _ HZ.out.1 hc).mono ?_ | with_reducible refine (rarcode_is _ HZ.out.2 ho).mono ?_); rintro e wq ⟨rfl, hq⟩; (have hsz := HB.out.size); (rw [World.size_alloc] at hsz); replace HB := Lib.hid (HB.out.trans (hq.mono hsz)); clear hsz; have u := boxg_below HB.out; clear hq))
          go_ret
          exact ⟨by first | rfl | (simp; omega), (below_alloc w _).trans (HB.out.mono (Nat.le_succ _))⟩
        | true =>
          have hres : R = false := HR.out.trans (by simp [chkB, hc, hy, hd, hn])
          subst hres
          go_wp2_with (first
            | (go_at_call 30; (first | with_reducible refine (raryear_is _ hy).mono ?_ | with_reducible refine (raryear_is (b := true) _ (by decide)).mono ?_); rintro e wq ⟨rfl, rfl⟩)
            | (go_at_call 36; with_reducible refine (rarnumber_is _ hn).mono ?_; rintro e wq ⟨rfl, rfl⟩)
            | (go_at_call 34; with_reducible refine (rarpercent_is _ hp).mono ?_; rintro e wq ⟨rfl, rfl⟩)
            | (go_at_call 35; with_reducible refine (rarday_is _ hd).mono ?_; rintro e wq ⟨rfl, rfl⟩)
            | (go_at_call 33; (first | with_reducible refine (rmValid_is _ ha).mono ?_ | with_reducible refine (rmValid_is _ hl).mono ?_); rintro e wq ⟨rfl, rfl⟩)
            | (go_at_call 32; refine (rclValid_is nm _ HZ.out.2 hv).mono ?_; rintro e wq ⟨rfl, hq⟩; (have hsz := HB.out.size); (rw [World.size_alloc] at hsz); replace HB := Lib.hid ((HB.out.alloc hsz _).trans (hq.mono (by rw [World.size_alloc]; omega))); clear hsz hq)
            | (go_at_call 31; (first | with_reducible refine (rarcode_is _ HZ.out.1 hc).mono ?_ | with_reducible refine (rarcode_is _ HZ.out.2 ho).mono ?_); rintro e wq ⟨rfl, hq⟩; (have hsz := HB.out.size); (rw [World.size_alloc] at hsz); replace HB := Lib.hid (HB.out.trans (hq.mono hsz)); clear hsz; have u := boxg_below HB.out; clear hq))
          go_ret
          exact ⟨by first | rfl | (simp; omega), (below_alloc w _).trans (HB.out.mono (Nat.le_succ _))⟩
    · have hyb : (yr == -1) = false := by rw [beq_eq_false_iff_ne]; exact hm
      cases hy : inB yr 0 99 with
      | false =>
        cases hd : inB dy 0 35990 with
        | false =>
          have hres : R = false := HR.out.trans (by simp [chkB, hc, hy, hm, hd])
          subst hres
          go_wp2_with (first
            | (go_at_call 30; (first | with_reducible refine (raryear_is _ hy).mono ?_ | with_reducible refine (raryear_is (b := true) _ (by decide)).mono ?_); rintro e wq ⟨rfl, rfl⟩)
            | (go_at_call 36; with_reducible refine (rarnumber_is _ hn).mono ?_; rintro e wq ⟨rfl, rfl⟩)
            | (go_at_call 34; with_reducible refine (rarpercent_is _ hp).mono ?_; rintro e wq ⟨rfl, rfl⟩)
            | (go_at_call 35; with_reducible refine (rarday_is _ hd).mono ?_; rintro e wq ⟨rfl, rfl⟩)
            | (go_at_call 33; (first | with_reducible refine (rmValid_is _ ha).mono ?_ | with_reducible refine (rmValid_is _ hl).mono ?_); rintro e wq ⟨rfl, rfl⟩)
            | (go_at_call 32; refine (rclValid_is nm _ HZ.out.2 hv).mono ?_; rintro e wq ⟨rfl, hq⟩; (have hsz := HB.out.size); (rw [World.size_alloc] at hsz); replace HB := Lib.hid ((HB.out.alloc hsz _).trans (hq.mono (by rw [World.size_alloc]; omega))); clear hsz hq)
            | (go_at_call 31; (first | with_reducible refine (rarcode_is _ HZ.out.1 hc).mono ?_ | with_reducible refine (rarcode_is _ HZ.out.2 ho).mono ?_); rintro e wq ⟨rfl, hq⟩; (have hsz := HB.out.size); (rw [World.size_alloc] at hsz); replace HB := Lib.hid (HB.out.trans (hq.mono hsz)); clear hsz; have u := boxg_below HB.out; clear hq))
          go_ret
          exact ⟨by first | rfl | (simp; omega), (below_alloc w _).trans (HB.out.mono (Nat.le_succ _))⟩
        | true =>
          cases hn : inB nu 1 1000000 with
          | false =>
            have hres : R = false := HR.out.trans (by simp [chkB, hc, hy, hm, hd, hn])
            subst hres
            go_wp2_with (first
              | (go_at_call 30; (first | with_reducible refine (raryear_is _ hy).mono ?_ | with_reducible refine (raryear_is (b := true) _ (by decide)).mono ?_); rintro e wq ⟨rfl, rfl⟩)
              | (go_at_call 36; with_reducible refine (rarnumber_is _ hn).mono ?_; rintro e wq ⟨rfl, rfl⟩)
              | (go_at_call 34; with_reducible refine (rarpercent_is _ hp).mono ?_; rintro e wq ⟨rfl, rfl⟩)
              | (go_at_call 35; with_reducible refine (rarday_is _ hd).mono ?_; rintro e wq ⟨rfl, rfl⟩)
              | (go_at_call 33; (first | with_reducible refine (rmValid_is _ ha).mono ?_ | with_reducible refine (rmValid_is _ hl).mono ?_); rintro e wq ⟨rfl, rfl⟩)
              | (go_at_call 32; refine (rclValid_is nm _ HZ.out.2 hv).mono ?_; rintro e wq ⟨rfl, hq⟩; (have hsz := HB.out.size); (rw [World.size_alloc] at hsz); replace HB := Lib.hid ((HB.out.alloc hsz _).trans (hq.mono (by rw [World.size_alloc]; omega))); clear hsz hq)
              | (go_at_call 31; (first | with_reducible refine (rarcode_is _ HZ.out.1 hc).mono ?_ | with_reducible refine (rarcode_is _ HZ.out.2 ho).mono ?_); rintro e wq ⟨rfl, hq⟩; (have hsz := HB.out.size); (rw [World.size_alloc] at hsz); replace HB := Lib.hid (HB.out.trans (hq.mono hsz)); clear hsz; have u := boxg_below HB.out; clear hq))
            go_ret
            exact ⟨by first | rfl | (simp; omega), (below_alloc w _).trans (HB.out.mono (Nat.le_succ _))⟩
          | true =>
            have hres : R = false := HR.out.trans (by simp [chkB, hc, hy, hm, hd, hn])
            subst hres
            go_wp2_with (first
              | (go_at_call 30; (first | with_reducible refine (raryear_is _ hy).mono ?_ | with_reducible refine (raryear_is (b := true) _ (by decide)).mono ?_); rintro e wq ⟨rfl, rfl⟩)
              | (go_at_call 36; with_reducible refine (rarnumber_is _ hn).mono ?_; rintro e wq ⟨rfl, rfl⟩)
              | (go_at_call 34; with_reducible refine (rarpercent_is _ hp).mono ?_; rintro e wq ⟨rfl, rfl⟩)
              | (go_at_call 35; with_reducible refine (rarday_is _ hd).mono ?_; rintro e wq ⟨rfl, rfl⟩)
              | (go_at_call 33; (first | with_reducible refine (rmValid_is _ ha).mono ?_ | with_reducible refine (rmValid_is _ hl).mono ?_); rintro e wq ⟨rfl, rfl⟩)
              | (go_at_call 32; refine (rclValid_is nm _ HZ.out.2 hv).mono ?_; rintro e wq ⟨rfl, hq⟩; (have hsz := HB.out.size); (rw [World.size_alloc] at hsz); replace HB := Lib.hid ((HB.out.alloc hsz _).trans (hq.mono (by rw [World.size_alloc]; omega))); clear hsz hq)
              | (go_at_call 31; (first | with_reducible refine (rarcode_is _ HZ.out.1 hc).mono ?_ | with_reducible refine (rarcode_is _ HZ.out.2 ho).mono ?_); rintro e wq ⟨rfl, hq⟩; (have hsz := HB.out.size); (rw [World.size_alloc] at hsz); replace HB := Lib.hid (HB.out.trans (hq.mono hsz)); clear hsz; have u := boxg_below HB.out; clear hq))
            go_ret
            exact ⟨by first | rfl | (simp; omega), (below_alloc w _).trans (HB.out.mono (Nat.le_succ _))⟩
      | true =>
        cases hd : inB dy 0 35990 with
        | false =>
          have hres : R = false := HR.out.trans (by simp [chkB, hc, hy, hm, hd])
          subst hres
          go_wp2_with (first
            | (go_at_call 30; (first | with_reducible refine (raryear_is _ hy).mono ?_ | with_reducible refine (raryear_is (b := true) _ (by decide)).mono ?_); rintro e wq ⟨rfl, rfl⟩)
            | (go_at_call 36; with_reducible refine (rarnumber_is _ hn).mono ?_; rintro e wq ⟨rfl, rfl⟩)
            | (go_at_call 34; with_reducible refine (rarpercent_is _ hp).mono ?_; rintro e wq ⟨rfl, rfl⟩)
            | (go_at_call 35; with_reducible refine (rarday_is _ hd).mono ?_; rintro e wq ⟨rfl, rfl⟩)
            | (go_at_call 33; (first | with_reducible refine (rmValid_is _ ha).mono ?_ | with_reducible refine (rmValid_is _ hl).mono ?_); rintro e wq ⟨rfl, rfl⟩)
            | (go_at_call 32; refine (rclValid_is nm _ HZ.out.2 hv).mono ?_; rintro e wq ⟨rfl, hq⟩; (have hsz := HB.out.size); (rw [World.size_alloc] at hsz); replace HB := Lib.hid ((HB.out.alloc hsz _).trans (hq.mono (by rw [World.size_alloc]; omega))); clear hsz hq)
            | (go_at_call 31; (first | with_reducible refine (rarcode_is _ HZ.out.1 hc).mono ?_ | with_reducible refine (rarcode_is _ HZ.out.2 ho).mono ?_); rintro e wq ⟨rfl, hq⟩; (have hsz := HB.out.size); (rw [World.size_alloc] at hsz); replace HB := Lib.hid (HB.out.trans (hq.mono hsz)); clear hsz; have u := boxg_below HB.out; clear hq))
          go_ret
          exact ⟨by first | rfl | (simp; omega), (below_alloc w _).trans (HB.out.mono (Nat.le_succ _))⟩
        | true =>
          cases hn : inB nu 1 1000000 with
          | false =>
            have hres : R = false := HR.out.trans (by simp [chkB, hc, hy, hm, hd, hn])
            subst hres
            go_wp2_with (first
              | (go_at_call 30; (first | with_reducible refine (raryear_is _ hy).mono ?_ | with_reducible refine (raryear_is (b := true) _ (by decide)).mono ?_); rintro e wq ⟨rfl, rfl⟩)
              | (go_at_call 36; with_reducible refine (rarnumber_is _ hn).mono ?_; rintro e wq ⟨rfl, rfl⟩)
              | (go_at_call 34; with_reducible refine (rarpercent_is _ hp).mono ?_; rintro e wq ⟨rfl, rfl⟩)
              | (go_at_call 35; with_reducible refine (rarday_is _ hd).mono ?_; rintro e wq ⟨rfl, rfl⟩)
              | (go_at_call 33; (first | with_reducible refine (rmValid_is _ ha).mono ?_ | with_reducible refine (rmValid_is _ hl).mono ?_); rintro e wq ⟨rfl, rfl⟩)
              | (go_at_call 32; refine (rclValid_is nm _ HZ.out.2 hv).mono ?_; rintro e wq ⟨rfl, hq⟩; (have hsz := HB.out.size); (rw [World.size_alloc] at hsz); replace HB := Lib.hid ((HB.out.alloc hsz _).trans (hq.mono (by rw [World.size_alloc]; omega))); clear hsz hq)
              | (go_at_call 31; (first | with_reducible refine (rarcode_is _ HZ.out.1 hc).mono ?_ | with_reducible refine (rarcode_is _ HZ.out.2 ho).mono ?_); rintro e wq ⟨rfl, hq⟩; (have hsz := HB.out.size); (rw [World.size_alloc] at hsz); replace HB := Lib.hid (HB.out.trans (hq.mono hsz)); clear hsz; have u := boxg_below HB.out; clear hq))
            go_ret
            exact ⟨by first | rfl | (simp; omega), (below_alloc w _).trans (HB.out.mono (Nat.le_succ _))⟩
          | true =>
            cases ha : inB am 0 1000000000000 with
            | false =>
              have hres : R = false := HR.out.trans (by simp [chkB, hc, hy, hm, hd, hn, ha])
              subst hres
              go_wp2_with (first
                | (go_at_call 30; (first | with_reducible refine (raryear_is _ hy).mono ?_ | with_reducible refine (raryear_is (b := true) _ (by decide)).mono ?_); rintro e wq ⟨rfl, rfl⟩)
                | (go_at_call 36; with_reducible refine (rarnumber_is _ hn).mono ?_; rintro e wq ⟨rfl, rfl⟩)
                | (go_at_call 34; with_reducible refine (rarpercent_is _ hp).mono ?_; rintro e wq ⟨rfl, rfl⟩)
                | (go_at_call 35; with_reducible refine (rarday_is _ hd).mono ?_; rintro e wq ⟨rfl, rfl⟩)
                | (go_at_call 33; (first | with_reducible refine (rmValid_is _ ha).mono ?_ | with_reducible refine (rmValid_is _ hl).mono ?_); rintro e wq ⟨rfl, rfl⟩)
                | (go_at_call 32; refine (rclValid_is nm _ HZ.out.2 hv).mono ?_; rintro e wq ⟨rfl, hq⟩; (have hsz := HB.out.size); (rw [World.size_alloc] at hsz); replace HB := Lib.hid ((HB.out.alloc hsz _).trans (hq.mono (by rw [World.size_alloc]; omega))); clear hsz hq)
                | (go_at_call 31; (first | with_reducible refine (rarcode_is _ HZ.out.1 hc).mono ?_ | with_reducible refine (rarcode_is _ HZ.out.2 ho).mono ?_); rintro e wq ⟨rfl, hq⟩; (have hsz := HB.out.size); (rw [World.size_alloc] at hsz); replace HB := Lib.hid (HB.out.trans (hq.mono hsz)); clear hsz; have u := boxg_below HB.out; clear hq))
              go_ret
              exact ⟨by first | rfl | (simp; omega), (below_alloc w _).trans (HB.out.mono (Nat.le_succ _))⟩
            | true =>
              have hres : R = true := HR.out.trans (by simp [chkB, hc, hy, hm, hd, hn, ha])
              subst hres
              go_wp2_with (first
                | (go_at_call 30; (first | with_reducible refine (raryear_is _ hy).mono ?_ | with_reducible refine (raryear_is (b := true) _ (by decide)).mono ?_); rintro e wq ⟨rfl, rfl⟩)
                | (go_at_call 36; with_reducible refine (rarnumber_is _ hn).mono ?_; rintro e wq ⟨rfl, rfl⟩)
                | (go_at_call 34; with_reducible refine (rarpercent_is _ hp).mono ?_; rintro e wq ⟨rfl, rfl⟩)
                | (go_at_call 35; with_reducible refine (rarday_is _ hd).mono ?_; rintro e wq ⟨rfl, rfl⟩)
                | (go_at_call 33; (first | with_reducible refine (rmValid_is _ ha).mono ?_ | with_reducible refine (rmValid_is _ hl).mono ?_); rintro e wq ⟨rfl, rfl⟩)
                | (go_at_call 32; refine (rclValid_is nm _ HZ.out.2 hv).mono ?_; rintro e wq ⟨rfl, hq⟩; (have hsz := HB.out.size); (rw [World.size_alloc] at hsz); replace HB := Lib.hid ((HB.out.alloc hsz _).trans (hq.mono (by rw [World.size_alloc]; omega))); clear hsz hq)
                | (go_at_call 31; (first | with_reducible refine (rarcode_is _ HZ.out.1 hc).mono ?_ | with_reducible refine (rarcode_is _ HZ.out.2 ho).mono ?_); rintro e wq ⟨rfl, hq⟩; (have hsz := HB.out.size); (rw [World.size_alloc] at hsz); replace HB := Lib.hid (HB.out.trans (hq.mono hsz)); clear hsz; have u := boxg_below HB.out; clear hq))
              go_ret
              exact ⟨by first | rfl | (simp; omega), (below_alloc w _).trans (HB.out.mono (Nat.le_succ _))⟩

set_option maxRecDepth 100000 in
set_option maxHeartbeats 8000000 in
theorem rpg_amend2 (cd : ByteArray) (yr : Int) (am : Int) (nu : Int) (dy : Int) (hz : cd.size ≤ 1000000 ∧ True) (w : World) :
    Calls Tryz.prog 11 #[.agg #[.int .i64 10, .string cd, .string ⟨#[]⟩, .string ⟨#[]⟩, .int .i64 yr, .int .i64 am, .int .i64 0, .int .i64 nu, .int .i64 dy, .int .i64 0, .int .i64 2]] w fun e w' => e = .returned (.bool (chkB ⟨10, cd, ⟨#[]⟩, ⟨#[]⟩, yr, am, 0, nu, dy, 0, 2⟩)) ∧ Below w.heap.size w w' := by
  have hq : ∀ W, (binOp .neq 24 (.agg #[.int .i64 10, .string cd, .string ⟨#[]⟩, .string ⟨#[]⟩, .int .i64 yr, .int .i64 am, .int .i64 0, .int .i64 nu, .int .i64 dy, .int .i64 0, .int .i64 2]) (.agg #[.int .i64 10, .string cd, .string ⟨#[]⟩, .string ⟨#[]⟩, .int .i64 yr, .int .i64 am, .int .i64 0, .int .i64 nu, .int .i64 dy, .int .i64 0, .int .i64 2])).run Tryz.prog W = .ok (.bool false) W := fun W => art_same W ⟨10, cd, ⟨#[]⟩, ⟨#[]⟩, yr, am, 0, nu, dy, 0, 2⟩
  have HU := Lib.hid (fun W => rused_10 cd ⟨#[]⟩ ⟨#[]⟩ yr am 0 nu dy 0 2 W)
  obtain ⟨R, hR⟩ : ∃ R, R = chkB ⟨10, cd, ⟨#[]⟩, ⟨#[]⟩, yr, am, 0, nu, dy, 0, 2⟩ := ⟨_, rfl⟩
  rw [← hR]
  have HR := Lib.hid hR
  have HZ := Lib.hid hz
  clear hR hz
  go_enter Tryz.func11, Tryz.ntmps11
  go_upto_region 1 with fail
  have hb0 : Below (w.heap.size + 1) (w.alloc (.cells #[.int .i64 10, .string cd, .string ⟨#[]⟩, .string ⟨#[]⟩, .int .i64 yr, .int .i64 am, .int .i64 0, .int .i64 nu, .int .i64 dy, .int .i64 0, .int .i64 2] 24)) (w.alloc (.cells #[.int .i64 10, .string cd, .string ⟨#[]⟩, .string ⟨#[]⟩, .int .i64 yr, .int .i64 am, .int .i64 0, .int .i64 nu, .int .i64 dy, .int .i64 0, .int .i64 2] 24)) := Below.refl _ _
  go_region_held3 (fun W => ∀ j, W.cell? ⟨w.heap.size, j, none⟩ = #[.int .i64 10, .string cd, .string ⟨#[]⟩, .string ⟨#[]⟩, .int .i64 yr, .int .i64 am, .int .i64 0, .int .i64 nu, .int .i64 dy, .int .i64 0, .int .i64 2][j]?) (first | exact boxg_below (by assumption) | exact boxg_below (Below.drew (by assumption)))
    (first | (go_at_call 29; (with_reducible refine (HU.out _).mono ?_); rintro e w1 ⟨rfl, hb1'⟩; (have hb1 : Below (w.heap.size + 1) (w.alloc (.cells #[.int .i64 10, .string cd, .string ⟨#[]⟩, .string ⟨#[]⟩, .int .i64 yr, .int .i64 am, .int .i64 0, .int .i64 nu, .int .i64 dy, .int .i64 0, .int .i64 2] 24)) w1 := (by first | exact hb0.trans (hb1'.mono (by simp)) | exact hb0.drew.trans (hb1'.mono (by simp)))); clear hb1'))
  have HB : Hid (Below (w.heap.size + 1) (w.alloc (.cells #[.int .i64 10, .string cd, .string ⟨#[]⟩, .string ⟨#[]⟩, .int .i64 yr, .int .i64 am, .int .i64 0, .int .i64 nu, .int .i64 dy, .int .i64 0, .int .i64 2] 24)) w1) := Lib.hid (by assumption)
  have u := boxg_below HB.out
  clear hb0 HU hq
  cases hc : isCodeB cd with
  | false =>
    have hres : R = false := HR.out.trans (by simp [chkB, spanB, hc])
    subst hres
    go_wp2_with (first
      | (go_at_call 30; (first | with_reducible refine (raryear_is _ hy).mono ?_ | with_reducible refine (raryear_is (b := true) _ (by decide)).mono ?_); rintro e wq ⟨rfl, rfl⟩)
      | (go_at_call 36; with_reducible refine (rarnumber_is _ hn).mono ?_; rintro e wq ⟨rfl, rfl⟩)
      | (go_at_call 34; with_reducible refine (rarpercent_is _ hp).mono ?_; rintro e wq ⟨rfl, rfl⟩)
      | (go_at_call 35; with_reducible refine (rarday_is _ hd).mono ?_; rintro e wq ⟨rfl, rfl⟩)
      | (go_at_call 33; (first | with_reducible refine (rmValid_is _ ha).mono ?_ | with_reducible refine (rmValid_is _ hl).mono ?_); rintro e wq ⟨rfl, rfl⟩)
      | (go_at_call 32; refine (rclValid_is nm _ HZ.out.2 hv).mono ?_; rintro e wq ⟨rfl, hq⟩; (have hsz := HB.out.size); (rw [World.size_alloc] at hsz); replace HB := Lib.hid ((HB.out.alloc hsz _).trans (hq.mono (by rw [World.size_alloc]; omega))); clear hsz hq)
      | (go_at_call 31; (first | with_reducible refine (rarcode_is _ HZ.out.1 hc).mono ?_ | with_reducible refine (rarcode_is _ HZ.out.2 ho).mono ?_); rintro e wq ⟨rfl, hq⟩; (have hsz := HB.out.size); (rw [World.size_alloc] at hsz); replace HB := Lib.hid (HB.out.trans (hq.mono hsz)); clear hsz; have u := boxg_below HB.out; clear hq))
    go_ret
    exact ⟨by first | rfl | (simp; omega), (below_alloc w _).trans (HB.out.mono (Nat.le_succ _))⟩
  | true =>
    by_cases hm : yr = -1
    · subst hm
      have hy : inB (-1) 0 99 = false := by decide
      cases hd : inB dy 0 35990 with
      | false =>
        have hres : R = false := HR.out.trans (by simp [chkB, spanB, hc, hy, hd])
        subst hres
        go_wp2_with (first
          | (go_at_call 30; (first | with_reducible refine (raryear_is _ hy).mono ?_ | with_reducible refine (raryear_is (b := true) _ (by decide)).mono ?_); rintro e wq ⟨rfl, rfl⟩)
          | (go_at_call 36; with_reducible refine (rarnumber_is _ hn).mono ?_; rintro e wq ⟨rfl, rfl⟩)
          | (go_at_call 34; with_reducible refine (rarpercent_is _ hp).mono ?_; rintro e wq ⟨rfl, rfl⟩)
          | (go_at_call 35; with_reducible refine (rarday_is _ hd).mono ?_; rintro e wq ⟨rfl, rfl⟩)
          | (go_at_call 33; (first | with_reducible refine (rmValid_is _ ha).mono ?_ | with_reducible refine (rmValid_is _ hl).mono ?_); rintro e wq ⟨rfl, rfl⟩)
          | (go_at_call 32; refine (rclValid_is nm _ HZ.out.2 hv).mono ?_; rintro e wq ⟨rfl, hq⟩; (have hsz := HB.out.size); (rw [World.size_alloc] at hsz); replace HB := Lib.hid ((HB.out.alloc hsz _).trans (hq.mono (by rw [World.size_alloc]; omega))); clear hsz hq)
          | (go_at_call 31; (first | with_reducible refine (rarcode_is _ HZ.out.1 hc).mono ?_ | with_reducible refine (rarcode_is _ HZ.out.2 ho).mono ?_); rintro e wq ⟨rfl, hq⟩; (have hsz := HB.out.size); (rw [World.size_alloc] at hsz); replace HB := Lib.hid (HB.out.trans (hq.mono hsz)); clear hsz; have u := boxg_below HB.out; clear hq))
        go_ret
        exact ⟨by first | rfl | (simp; omega), (below_alloc w _).trans (HB.out.mono (Nat.le_succ _))⟩
      | true =>
        cases hn : inB nu 1 1000000 with
        | false =>
          have hres : R = false := HR.out.trans (by simp [chkB, spanB, hc, hy, hd, hn])
          subst hres
          go_wp2_with (first
            | (go_at_call 30; (first | with_reducible refine (raryear_is _ hy).mono ?_ | with_reducible refine (raryear_is (b := true) _ (by decide)).mono ?_); rintro e wq ⟨rfl, rfl⟩)
            | (go_at_call 36; with_reducible refine (rarnumber_is _ hn).mono ?_; rintro e wq ⟨rfl, rfl⟩)
            | (go_at_call 34; with_reducible refine (rarpercent_is _ hp).mono ?_; rintro e wq ⟨rfl, rfl⟩)
            | (go_at_call 35; with_reducible refine (rarday_is _ hd).mono ?_; rintro e wq ⟨rfl, rfl⟩)
            | (go_at_call 33; (first | with_reducible refine (rmValid_is _ ha).mono ?_ | with_reducible refine (rmValid_is _ hl).mono ?_); rintro e wq ⟨rfl, rfl⟩)
            | (go_at_call 32; refine (rclValid_is nm _ HZ.out.2 hv).mono ?_; rintro e wq ⟨rfl, hq⟩; (have hsz := HB.out.size); (rw [World.size_alloc] at hsz); replace HB := Lib.hid ((HB.out.alloc hsz _).trans (hq.mono (by rw [World.size_alloc]; omega))); clear hsz hq)
            | (go_at_call 31; (first | with_reducible refine (rarcode_is _ HZ.out.1 hc).mono ?_ | with_reducible refine (rarcode_is _ HZ.out.2 ho).mono ?_); rintro e wq ⟨rfl, hq⟩; (have hsz := HB.out.size); (rw [World.size_alloc] at hsz); replace HB := Lib.hid (HB.out.trans (hq.mono hsz)); clear hsz; have u := boxg_below HB.out; clear hq))
          go_ret
          exact ⟨by first | rfl | (simp; omega), (below_alloc w _).trans (HB.out.mono (Nat.le_succ _))⟩
        | true =>
          by_cases hx : am = -1
          · subst hx
            have ha : inB (-1) 0 1000000000000 = false := by decide
            have hres : R = true := HR.out.trans (by simp [chkB, spanB, hc, hy, hd, hn])
            subst hres
            go_wp2_with (first
              | (go_at_call 30; (first | with_reducible refine (raryear_is _ hy).mono ?_ | with_reducible refine (raryear_is (b := true) _ (by decide)).mono ?_); rintro e wq ⟨rfl, rfl⟩)
              | (go_at_call 36; with_reducible refine (rarnumber_is _ hn).mono ?_; rintro e wq ⟨rfl, rfl⟩)
              | (go_at_call 34; with_reducible refine (rarpercent_is _ hp).mono ?_; rintro e wq ⟨rfl, rfl⟩)
              | (go_at_call 35; with_reducible refine (rarday_is _ hd).mono ?_; rintro e wq ⟨rfl, rfl⟩)
              | (go_at_call 33; (first | with_reducible refine (rmValid_is _ ha).mono ?_ | with_reducible refine (rmValid_is _ hl).mono ?_); rintro e wq ⟨rfl, rfl⟩)
              | (go_at_call 32; refine (rclValid_is nm _ HZ.out.2 hv).mono ?_; rintro e wq ⟨rfl, hq⟩; (have hsz := HB.out.size); (rw [World.size_alloc] at hsz); replace HB := Lib.hid ((HB.out.alloc hsz _).trans (hq.mono (by rw [World.size_alloc]; omega))); clear hsz hq)
              | (go_at_call 31; (first | with_reducible refine (rarcode_is _ HZ.out.1 hc).mono ?_ | with_reducible refine (rarcode_is _ HZ.out.2 ho).mono ?_); rintro e wq ⟨rfl, hq⟩; (have hsz := HB.out.size); (rw [World.size_alloc] at hsz); replace HB := Lib.hid (HB.out.trans (hq.mono hsz)); clear hsz; have u := boxg_below HB.out; clear hq))
            go_ret
            exact ⟨by first | rfl | (simp; omega), (below_alloc w _).trans (HB.out.mono (Nat.le_succ _))⟩
          · have hab : (am == -1) = false := by rw [beq_eq_false_iff_ne]; exact hx
            cases ha : inB am 0 1000000000000 with
            | false =>
              have hres : R = false := HR.out.trans (by simp [chkB, spanB, hc, hy, hd, hn, ha, hx])
              subst hres
              go_wp2_with (first
                | (go_at_call 30; (first | with_reducible refine (raryear_is _ hy).mono ?_ | with_reducible refine (raryear_is (b := true) _ (by decide)).mono ?_); rintro e wq ⟨rfl, rfl⟩)
                | (go_at_call 36; with_reducible refine (rarnumber_is _ hn).mono ?_; rintro e wq ⟨rfl, rfl⟩)
                | (go_at_call 34; with_reducible refine (rarpercent_is _ hp).mono ?_; rintro e wq ⟨rfl, rfl⟩)
                | (go_at_call 35; with_reducible refine (rarday_is _ hd).mono ?_; rintro e wq ⟨rfl, rfl⟩)
                | (go_at_call 33; (first | with_reducible refine (rmValid_is _ ha).mono ?_ | with_reducible refine (rmValid_is _ hl).mono ?_); rintro e wq ⟨rfl, rfl⟩)
                | (go_at_call 32; refine (rclValid_is nm _ HZ.out.2 hv).mono ?_; rintro e wq ⟨rfl, hq⟩; (have hsz := HB.out.size); (rw [World.size_alloc] at hsz); replace HB := Lib.hid ((HB.out.alloc hsz _).trans (hq.mono (by rw [World.size_alloc]; omega))); clear hsz hq)
                | (go_at_call 31; (first | with_reducible refine (rarcode_is _ HZ.out.1 hc).mono ?_ | with_reducible refine (rarcode_is _ HZ.out.2 ho).mono ?_); rintro e wq ⟨rfl, hq⟩; (have hsz := HB.out.size); (rw [World.size_alloc] at hsz); replace HB := Lib.hid (HB.out.trans (hq.mono hsz)); clear hsz; have u := boxg_below HB.out; clear hq))
              go_ret
              exact ⟨by first | rfl | (simp; omega), (below_alloc w _).trans (HB.out.mono (Nat.le_succ _))⟩
            | true =>
              have hres : R = true := HR.out.trans (by simp [chkB, spanB, hc, hy, hd, hn, ha, hx])
              subst hres
              go_wp2_with (first
                | (go_at_call 30; (first | with_reducible refine (raryear_is _ hy).mono ?_ | with_reducible refine (raryear_is (b := true) _ (by decide)).mono ?_); rintro e wq ⟨rfl, rfl⟩)
                | (go_at_call 36; with_reducible refine (rarnumber_is _ hn).mono ?_; rintro e wq ⟨rfl, rfl⟩)
                | (go_at_call 34; with_reducible refine (rarpercent_is _ hp).mono ?_; rintro e wq ⟨rfl, rfl⟩)
                | (go_at_call 35; with_reducible refine (rarday_is _ hd).mono ?_; rintro e wq ⟨rfl, rfl⟩)
                | (go_at_call 33; (first | with_reducible refine (rmValid_is _ ha).mono ?_ | with_reducible refine (rmValid_is _ hl).mono ?_); rintro e wq ⟨rfl, rfl⟩)
                | (go_at_call 32; refine (rclValid_is nm _ HZ.out.2 hv).mono ?_; rintro e wq ⟨rfl, hq⟩; (have hsz := HB.out.size); (rw [World.size_alloc] at hsz); replace HB := Lib.hid ((HB.out.alloc hsz _).trans (hq.mono (by rw [World.size_alloc]; omega))); clear hsz hq)
                | (go_at_call 31; (first | with_reducible refine (rarcode_is _ HZ.out.1 hc).mono ?_ | with_reducible refine (rarcode_is _ HZ.out.2 ho).mono ?_); rintro e wq ⟨rfl, hq⟩; (have hsz := HB.out.size); (rw [World.size_alloc] at hsz); replace HB := Lib.hid (HB.out.trans (hq.mono hsz)); clear hsz; have u := boxg_below HB.out; clear hq))
              go_ret
              exact ⟨by first | rfl | (simp; omega), (below_alloc w _).trans (HB.out.mono (Nat.le_succ _))⟩
    · have hyb : (yr == -1) = false := by rw [beq_eq_false_iff_ne]; exact hm
      cases hy : inB yr 0 99 with
      | false =>
        cases hd : inB dy 0 35990 with
        | false =>
          have hres : R = false := HR.out.trans (by simp [chkB, spanB, hc, hy, hm, hd])
          subst hres
          go_wp2_with (first
            | (go_at_call 30; (first | with_reducible refine (raryear_is _ hy).mono ?_ | with_reducible refine (raryear_is (b := true) _ (by decide)).mono ?_); rintro e wq ⟨rfl, rfl⟩)
            | (go_at_call 36; with_reducible refine (rarnumber_is _ hn).mono ?_; rintro e wq ⟨rfl, rfl⟩)
            | (go_at_call 34; with_reducible refine (rarpercent_is _ hp).mono ?_; rintro e wq ⟨rfl, rfl⟩)
            | (go_at_call 35; with_reducible refine (rarday_is _ hd).mono ?_; rintro e wq ⟨rfl, rfl⟩)
            | (go_at_call 33; (first | with_reducible refine (rmValid_is _ ha).mono ?_ | with_reducible refine (rmValid_is _ hl).mono ?_); rintro e wq ⟨rfl, rfl⟩)
            | (go_at_call 32; refine (rclValid_is nm _ HZ.out.2 hv).mono ?_; rintro e wq ⟨rfl, hq⟩; (have hsz := HB.out.size); (rw [World.size_alloc] at hsz); replace HB := Lib.hid ((HB.out.alloc hsz _).trans (hq.mono (by rw [World.size_alloc]; omega))); clear hsz hq)
            | (go_at_call 31; (first | with_reducible refine (rarcode_is _ HZ.out.1 hc).mono ?_ | with_reducible refine (rarcode_is _ HZ.out.2 ho).mono ?_); rintro e wq ⟨rfl, hq⟩; (have hsz := HB.out.size); (rw [World.size_alloc] at hsz); replace HB := Lib.hid (HB.out.trans (hq.mono hsz)); clear hsz; have u := boxg_below HB.out; clear hq))
          go_ret
          exact ⟨by first | rfl | (simp; omega), (below_alloc w _).trans (HB.out.mono (Nat.le_succ _))⟩
        | true =>
          cases hn : inB nu 1 1000000 with
          | false =>
            have hres : R = false := HR.out.trans (by simp [chkB, spanB, hc, hy, hm, hd, hn])
            subst hres
            go_wp2_with (first
              | (go_at_call 30; (first | with_reducible refine (raryear_is _ hy).mono ?_ | with_reducible refine (raryear_is (b := true) _ (by decide)).mono ?_); rintro e wq ⟨rfl, rfl⟩)
              | (go_at_call 36; with_reducible refine (rarnumber_is _ hn).mono ?_; rintro e wq ⟨rfl, rfl⟩)
              | (go_at_call 34; with_reducible refine (rarpercent_is _ hp).mono ?_; rintro e wq ⟨rfl, rfl⟩)
              | (go_at_call 35; with_reducible refine (rarday_is _ hd).mono ?_; rintro e wq ⟨rfl, rfl⟩)
              | (go_at_call 33; (first | with_reducible refine (rmValid_is _ ha).mono ?_ | with_reducible refine (rmValid_is _ hl).mono ?_); rintro e wq ⟨rfl, rfl⟩)
              | (go_at_call 32; refine (rclValid_is nm _ HZ.out.2 hv).mono ?_; rintro e wq ⟨rfl, hq⟩; (have hsz := HB.out.size); (rw [World.size_alloc] at hsz); replace HB := Lib.hid ((HB.out.alloc hsz _).trans (hq.mono (by rw [World.size_alloc]; omega))); clear hsz hq)
              | (go_at_call 31; (first | with_reducible refine (rarcode_is _ HZ.out.1 hc).mono ?_ | with_reducible refine (rarcode_is _ HZ.out.2 ho).mono ?_); rintro e wq ⟨rfl, hq⟩; (have hsz := HB.out.size); (rw [World.size_alloc] at hsz); replace HB := Lib.hid (HB.out.trans (hq.mono hsz)); clear hsz; have u := boxg_below HB.out; clear hq))
            go_ret
            exact ⟨by first | rfl | (simp; omega), (below_alloc w _).trans (HB.out.mono (Nat.le_succ _))⟩
          | true =>
            have hres : R = false := HR.out.trans (by simp [chkB, spanB, hc, hy, hm, hd, hn])
            subst hres
            go_wp2_with (first
              | (go_at_call 30; (first | with_reducible refine (raryear_is _ hy).mono ?_ | with_reducible refine (raryear_is (b := true) _ (by decide)).mono ?_); rintro e wq ⟨rfl, rfl⟩)
              | (go_at_call 36; with_reducible refine (rarnumber_is _ hn).mono ?_; rintro e wq ⟨rfl, rfl⟩)
              | (go_at_call 34; with_reducible refine (rarpercent_is _ hp).mono ?_; rintro e wq ⟨rfl, rfl⟩)
              | (go_at_call 35; with_reducible refine (rarday_is _ hd).mono ?_; rintro e wq ⟨rfl, rfl⟩)
              | (go_at_call 33; (first | with_reducible refine (rmValid_is _ ha).mono ?_ | with_reducible refine (rmValid_is _ hl).mono ?_); rintro e wq ⟨rfl, rfl⟩)
              | (go_at_call 32; refine (rclValid_is nm _ HZ.out.2 hv).mono ?_; rintro e wq ⟨rfl, hq⟩; (have hsz := HB.out.size); (rw [World.size_alloc] at hsz); replace HB := Lib.hid ((HB.out.alloc hsz _).trans (hq.mono (by rw [World.size_alloc]; omega))); clear hsz hq)
              | (go_at_call 31; (first | with_reducible refine (rarcode_is _ HZ.out.1 hc).mono ?_ | with_reducible refine (rarcode_is _ HZ.out.2 ho).mono ?_); rintro e wq ⟨rfl, hq⟩; (have hsz := HB.out.size); (rw [World.size_alloc] at hsz); replace HB := Lib.hid (HB.out.trans (hq.mono hsz)); clear hsz; have u := boxg_below HB.out; clear hq))
            go_ret
            exact ⟨by first | rfl | (simp; omega), (below_alloc w _).trans (HB.out.mono (Nat.le_succ _))⟩
      | true =>
        cases hd : inB dy 0 35990 with
        | false =>
          have hres : R = false := HR.out.trans (by simp [chkB, spanB, hc, hy, hm, hd])
          subst hres
          go_wp2_with (first
            | (go_at_call 30; (first | with_reducible refine (raryear_is _ hy).mono ?_ | with_reducible refine (raryear_is (b := true) _ (by decide)).mono ?_); rintro e wq ⟨rfl, rfl⟩)
            | (go_at_call 36; with_reducible refine (rarnumber_is _ hn).mono ?_; rintro e wq ⟨rfl, rfl⟩)
            | (go_at_call 34; with_reducible refine (rarpercent_is _ hp).mono ?_; rintro e wq ⟨rfl, rfl⟩)
            | (go_at_call 35; with_reducible refine (rarday_is _ hd).mono ?_; rintro e wq ⟨rfl, rfl⟩)
            | (go_at_call 33; (first | with_reducible refine (rmValid_is _ ha).mono ?_ | with_reducible refine (rmValid_is _ hl).mono ?_); rintro e wq ⟨rfl, rfl⟩)
            | (go_at_call 32; refine (rclValid_is nm _ HZ.out.2 hv).mono ?_; rintro e wq ⟨rfl, hq⟩; (have hsz := HB.out.size); (rw [World.size_alloc] at hsz); replace HB := Lib.hid ((HB.out.alloc hsz _).trans (hq.mono (by rw [World.size_alloc]; omega))); clear hsz hq)
            | (go_at_call 31; (first | with_reducible refine (rarcode_is _ HZ.out.1 hc).mono ?_ | with_reducible refine (rarcode_is _ HZ.out.2 ho).mono ?_); rintro e wq ⟨rfl, hq⟩; (have hsz := HB.out.size); (rw [World.size_alloc] at hsz); replace HB := Lib.hid (HB.out.trans (hq.mono hsz)); clear hsz; have u := boxg_below HB.out; clear hq))
          go_ret
          exact ⟨by first | rfl | (simp; omega), (below_alloc w _).trans (HB.out.mono (Nat.le_succ _))⟩
        | true =>
          cases hn : inB nu 1 1000000 with
          | false =>
            have hres : R = false := HR.out.trans (by simp [chkB, spanB, hc, hy, hm, hd, hn])
            subst hres
            go_wp2_with (first
              | (go_at_call 30; (first | with_reducible refine (raryear_is _ hy).mono ?_ | with_reducible refine (raryear_is (b := true) _ (by decide)).mono ?_); rintro e wq ⟨rfl, rfl⟩)
              | (go_at_call 36; with_reducible refine (rarnumber_is _ hn).mono ?_; rintro e wq ⟨rfl, rfl⟩)
              | (go_at_call 34; with_reducible refine (rarpercent_is _ hp).mono ?_; rintro e wq ⟨rfl, rfl⟩)
              | (go_at_call 35; with_reducible refine (rarday_is _ hd).mono ?_; rintro e wq ⟨rfl, rfl⟩)
              | (go_at_call 33; (first | with_reducible refine (rmValid_is _ ha).mono ?_ | with_reducible refine (rmValid_is _ hl).mono ?_); rintro e wq ⟨rfl, rfl⟩)
              | (go_at_call 32; refine (rclValid_is nm _ HZ.out.2 hv).mono ?_; rintro e wq ⟨rfl, hq⟩; (have hsz := HB.out.size); (rw [World.size_alloc] at hsz); replace HB := Lib.hid ((HB.out.alloc hsz _).trans (hq.mono (by rw [World.size_alloc]; omega))); clear hsz hq)
              | (go_at_call 31; (first | with_reducible refine (rarcode_is _ HZ.out.1 hc).mono ?_ | with_reducible refine (rarcode_is _ HZ.out.2 ho).mono ?_); rintro e wq ⟨rfl, hq⟩; (have hsz := HB.out.size); (rw [World.size_alloc] at hsz); replace HB := Lib.hid (HB.out.trans (hq.mono hsz)); clear hsz; have u := boxg_below HB.out; clear hq))
            go_ret
            exact ⟨by first | rfl | (simp; omega), (below_alloc w _).trans (HB.out.mono (Nat.le_succ _))⟩
          | true =>
            by_cases hx : am = -1
            · subst hx
              have ha : inB (-1) 0 1000000000000 = false := by decide
              have hres : R = true := HR.out.trans (by simp [chkB, spanB, hc, hy, hm, hd, hn])
              subst hres
              go_wp2_with (first
                | (go_at_call 30; (first | with_reducible refine (raryear_is _ hy).mono ?_ | with_reducible refine (raryear_is (b := true) _ (by decide)).mono ?_); rintro e wq ⟨rfl, rfl⟩)
                | (go_at_call 36; with_reducible refine (rarnumber_is _ hn).mono ?_; rintro e wq ⟨rfl, rfl⟩)
                | (go_at_call 34; with_reducible refine (rarpercent_is _ hp).mono ?_; rintro e wq ⟨rfl, rfl⟩)
                | (go_at_call 35; with_reducible refine (rarday_is _ hd).mono ?_; rintro e wq ⟨rfl, rfl⟩)
                | (go_at_call 33; (first | with_reducible refine (rmValid_is _ ha).mono ?_ | with_reducible refine (rmValid_is _ hl).mono ?_); rintro e wq ⟨rfl, rfl⟩)
                | (go_at_call 32; refine (rclValid_is nm _ HZ.out.2 hv).mono ?_; rintro e wq ⟨rfl, hq⟩; (have hsz := HB.out.size); (rw [World.size_alloc] at hsz); replace HB := Lib.hid ((HB.out.alloc hsz _).trans (hq.mono (by rw [World.size_alloc]; omega))); clear hsz hq)
                | (go_at_call 31; (first | with_reducible refine (rarcode_is _ HZ.out.1 hc).mono ?_ | with_reducible refine (rarcode_is _ HZ.out.2 ho).mono ?_); rintro e wq ⟨rfl, hq⟩; (have hsz := HB.out.size); (rw [World.size_alloc] at hsz); replace HB := Lib.hid (HB.out.trans (hq.mono hsz)); clear hsz; have u := boxg_below HB.out; clear hq))
              go_ret
              exact ⟨by first | rfl | (simp; omega), (below_alloc w _).trans (HB.out.mono (Nat.le_succ _))⟩
            · have hab : (am == -1) = false := by rw [beq_eq_false_iff_ne]; exact hx
              cases ha : inB am 0 1000000000000 with
              | false =>
                have hres : R = false := HR.out.trans (by simp [chkB, spanB, hc, hy, hm, hd, hn, ha, hx])
                subst hres
                go_wp2_with (first
                  | (go_at_call 30; (first | with_reducible refine (raryear_is _ hy).mono ?_ | with_reducible refine (raryear_is (b := true) _ (by decide)).mono ?_); rintro e wq ⟨rfl, rfl⟩)
                  | (go_at_call 36; with_reducible refine (rarnumber_is _ hn).mono ?_; rintro e wq ⟨rfl, rfl⟩)
                  | (go_at_call 34; with_reducible refine (rarpercent_is _ hp).mono ?_; rintro e wq ⟨rfl, rfl⟩)
                  | (go_at_call 35; with_reducible refine (rarday_is _ hd).mono ?_; rintro e wq ⟨rfl, rfl⟩)
                  | (go_at_call 33; (first | with_reducible refine (rmValid_is _ ha).mono ?_ | with_reducible refine (rmValid_is _ hl).mono ?_); rintro e wq ⟨rfl, rfl⟩)
                  | (go_at_call 32; refine (rclValid_is nm _ HZ.out.2 hv).mono ?_; rintro e wq ⟨rfl, hq⟩; (have hsz := HB.out.size); (rw [World.size_alloc] at hsz); replace HB := Lib.hid ((HB.out.alloc hsz _).trans (hq.mono (by rw [World.size_alloc]; omega))); clear hsz hq)
                  | (go_at_call 31; (first | with_reducible refine (rarcode_is _ HZ.out.1 hc).mono ?_ | with_reducible refine (rarcode_is _ HZ.out.2 ho).mono ?_); rintro e wq ⟨rfl, hq⟩; (have hsz := HB.out.size); (rw [World.size_alloc] at hsz); replace HB := Lib.hid (HB.out.trans (hq.mono hsz)); clear hsz; have u := boxg_below HB.out; clear hq))
                go_ret
                exact ⟨by first | rfl | (simp; omega), (below_alloc w _).trans (HB.out.mono (Nat.le_succ _))⟩
              | true =>
                have hres : R = true := HR.out.trans (by simp [chkB, spanB, hc, hy, hm, hd, hn, ha, hx])
                subst hres
                go_wp2_with (first
                  | (go_at_call 30; (first | with_reducible refine (raryear_is _ hy).mono ?_ | with_reducible refine (raryear_is (b := true) _ (by decide)).mono ?_); rintro e wq ⟨rfl, rfl⟩)
                  | (go_at_call 36; with_reducible refine (rarnumber_is _ hn).mono ?_; rintro e wq ⟨rfl, rfl⟩)
                  | (go_at_call 34; with_reducible refine (rarpercent_is _ hp).mono ?_; rintro e wq ⟨rfl, rfl⟩)
                  | (go_at_call 35; with_reducible refine (rarday_is _ hd).mono ?_; rintro e wq ⟨rfl, rfl⟩)
                  | (go_at_call 33; (first | with_reducible refine (rmValid_is _ ha).mono ?_ | with_reducible refine (rmValid_is _ hl).mono ?_); rintro e wq ⟨rfl, rfl⟩)
                  | (go_at_call 32; refine (rclValid_is nm _ HZ.out.2 hv).mono ?_; rintro e wq ⟨rfl, hq⟩; (have hsz := HB.out.size); (rw [World.size_alloc] at hsz); replace HB := Lib.hid ((HB.out.alloc hsz _).trans (hq.mono (by rw [World.size_alloc]; omega))); clear hsz hq)
                  | (go_at_call 31; (first | with_reducible refine (rarcode_is _ HZ.out.1 hc).mono ?_ | with_reducible refine (rarcode_is _ HZ.out.2 ho).mono ?_); rintro e wq ⟨rfl, hq⟩; (have hsz := HB.out.size); (rw [World.size_alloc] at hsz); replace HB := Lib.hid (HB.out.trans (hq.mono hsz)); clear hsz; have u := boxg_below HB.out; clear hq))
                go_ret
                exact ⟨by first | rfl | (simp; omega), (below_alloc w _).trans (HB.out.mono (Nat.le_succ _))⟩

end Go.Proofs.YtdgckdmgplpobaaGreatDoor
