/- The walk of CalendarAnswers: all functions of package calendar return what the chapter's reference returns; for every tape, all numbers, and texts of up to 100 bytes (longer ones are passed over). -/
import Derived.Test.YtgnjboebnobjcaaDoorCAns
namespace Go.Proofs.YtgnjboebnobjcaaDoor
open Go.RowKit Go.Lib Go.Proofs

/-- A block of m numbers. -/
def EI (e m : Nat) (W : World) : Prop := e < W.heap.size ∧ ∀ j, j < m → ∃ x : Int, W.cell? ⟨e, j, none⟩ = some (.int .i64 x)
theorem EI.below {e m : Nat} {W W' : World} (h : EI e m W) (hb : Below W.heap.size W W') : EI e m W' :=
  ⟨Nat.lt_of_lt_of_le h.1 hb.size, fun j hj => by obtain ⟨x, hx⟩ := h.2 j hj; exact ⟨x, by rw [hb.cell (by exact h.1)]; exact hx⟩⟩
theorem EI.grown {e m : Nat} {W W' : World} {tb : Nat} (h : EI e m W) (hg : W.grownBy W' (some tb)) (hne : tb < e) : EI e m W' :=
  ⟨Nat.lt_of_lt_of_le h.1 hg.size, fun j hj => by obtain ⟨x, hx⟩ := h.2 j hj; exact ⟨x, by rw [World.cell?_of_block (w := W) (hg.block e h.1 (by simp; omega))]; exact hx⟩⟩
theorem EI.new (W : World) (cs : List Value) (T : TypeId) (m : Nat) (h : ∀ j, j < m → ∃ x : Int, cs[j]? = some (.int .i64 x)) : EI W.heap.size m (W.alloc (.cells cs.toArray T)) :=
  ⟨by simp, fun j hj => by
    obtain ⟨x, hx⟩ := h j hj
    exact ⟨x, by rw [cell_of_row _ _ j _ T (0, 0) (heap_alloc_new W _), List.getElem?_toArray]; exact hx⟩⟩

theorem lt_eight {j : Nat} (h : j < 8) : j = 0 ∨ j = 1 ∨ j = 2 ∨ j = 3 ∨ j = 4 ∨ j = 5 ∨ j = 6 ∨ j = 7 := by omega
theorem lt_six {j : Nat} (h : j < 6) : j = 0 ∨ j = 1 ∨ j = 2 ∨ j = 3 ∨ j = 4 ∨ j = 5 := by omega

/-- A block of three texts. -/
def SI (e : Nat) (W : World) : Prop := e < W.heap.size ∧ ∀ j, j < 3 → ∃ t : ByteArray, t.size ≤ 1000000 ∧ W.cell? ⟨e, j, none⟩ = some (.string t)
theorem SI.below {e : Nat} {W W' : World} (h : SI e W) (hb : Below W.heap.size W W') : SI e W' :=
  ⟨Nat.lt_of_lt_of_le h.1 hb.size, fun j hj => by obtain ⟨x, h1, hx⟩ := h.2 j hj; exact ⟨x, h1, by rw [hb.cell (by exact h.1)]; exact hx⟩⟩
theorem SI.new (W : World) (T : TypeId) (a b c : ByteArray) (ha : a.size ≤ 1000000) (hb : b.size ≤ 1000000) (hc : c.size ≤ 1000000) : SI W.heap.size (W.alloc (.cells #[.string a, .string b, .string c] T)) :=
  ⟨by simp, fun j hj => by
    rw [cell_of_row _ _ j _ T (0, 0) (heap_alloc_new W _)]
    have : j = 0 ∨ j = 1 ∨ j = 2 := by omega
    rcases this with rfl | rfl | rfl
    · exact ⟨a, ha, rfl⟩
    · exact ⟨b, hb, rfl⟩
    · exact ⟨c, hc, rfl⟩⟩

theorem lt_twelve {j : Nat} (h : j < 12) : j = 0 ∨ j = 1 ∨ j = 2 ∨ j = 3 ∨ j = 4 ∨ j = 5 ∨ j = 6 ∨ j = 7 ∨ j = 8 ∨ j = 9 ∨ j = 10 ∨ j = 11 := by omega

/-- The words with which a text is spoilt, in a block of their own. -/
theorem words_new (W : World) (T : TypeId) : ∀ i, i < 6 → ∃ t : ByteArray, t.size ≤ 10 ∧ (W.alloc (.cells #[.string ⟨#[]⟩, .string ⟨#[48]⟩, .string ⟨#[49]⟩, .string ⟨#[45]⟩, .string ⟨#[57]⟩, .string ⟨#[120]⟩] T)).cell? ⟨W.heap.size, i, none⟩ = some (.string t) := fun i hi => by
  rw [cell_of_row _ _ i _ T (0, 0) (heap_alloc_new W _)]
  rcases lt_six hi with rfl | rfl | rfl | rfl | rfl | rfl
  · exact ⟨⟨#[]⟩, by decide, rfl⟩
  · exact ⟨⟨#[48]⟩, by decide, rfl⟩
  · exact ⟨⟨#[49]⟩, by decide, rfl⟩
  · exact ⟨⟨#[45]⟩, by decide, rfl⟩
  · exact ⟨⟨#[57]⟩, by decide, rfl⟩
  · exact ⟨⟨#[120]⟩, by decide, rfl⟩

set_option maxRecDepth 100000 in
set_option maxHeartbeats 8000000 in
theorem cans_any (v : Value) (n : Nat) (a b c : Int) (s : ByteArray) (w : World) (hi : IntsAt w v n w.heap.size) (hn : n ≤ 9223372036854775807) (hsz : s.size ≤ maxLen) (hL : Lay w) :
    Calls Tryd.prog 3 #[v, .int .i64 a, .int .i64 b, .int .i64 c, .string s] w fun e w' => e = .returned (.bool true) ∧ Below w.heap.size w w' := by
  have HAW := Lib.hid awake_any
  have HNEW := Lib.hid (New_any v n w hi hn)
  have HL := Lib.hid hL
  clear hi hn hL hsz
  by_cases h100 : 100 < s.size
  · have hgt : (100 : Int) < (s.size : Int) := by omega
    clear h100
    go_enter Tryd.func3, Tryd.ntmps3
    go_wp2_with fail
    refine (HAW.out _).mono ?_
    rintro e w' ⟨rfl, hb⟩
    go_wp2_with fail
    go_ret
    exact ⟨rfl, hb⟩
  · have hle : (s.size : Int) ≤ 100 := by omega
    have HS := Lib.hid (show s.size ≤ 100 by omega)
    clear h100
    go_enter Tryd.func3, Tryd.ntmps3
    go_wp2_with fail
    refine (HNEW.out).mono ?_
    rintro e w1 ⟨rfl, t1, b1⟩
    have I1 : CInv w w.heap.size w1 := ⟨t1, HL.out.below b1 (Nat.le_refl _), b1, Nat.le_refl _, HL.out.lt⟩
    clear HNEW t1 b1
    obtain ⟨tb, htb⟩ : ∃ tb, tb = w.heap.size := ⟨_, rfl⟩
    rw [← htb] at I1 ⊢
    have HTB := Lib.hid htb
    clear htb HL
    have HI1 := Lib.hid I1
    clear I1
    go_wp2_with fail
    refine (N_c HI1.out 36001 (by omega) (by omega)).mono ?_
    rintro e w2 ⟨r1, rfl, _, _, I2, _⟩
    have HI2 := Lib.hid I2
    clear I2 HI1
    go_wp2_with fail
    have E0 := EI.new w2 [.int .i64 a, .int .i64 b, .int .i64 r1, .int .i64 0, .int .i64 36000, .int .i64 35999, .int .i64 36001, .int .i64 (-1)] 3 8 (fun j hj => by
      rcases lt_eight hj with rfl | rfl | rfl | rfl | rfl | rfl | rfl | rfl <;> exact ⟨_, rfl⟩)
    have I3 := HI2.out.below (below_alloc w2 (.cells #[.int .i64 a, .int .i64 b, .int .i64 r1, .int .i64 0, .int .i64 36000, .int .i64 35999, .int .i64 36001, .int .i64 (-1)] 3))
    have hte : tb < w2.heap.size := HI2.out.tape.lt
    generalize w2.alloc (.cells #[.int .i64 a, .int .i64 b, .int .i64 r1, .int .i64 0, .int .i64 36000, .int .i64 35999, .int .i64 36001, .int .i64 (-1)] 3) = W0 at E0 I3 ⊢
    generalize w2.heap.size = E at E0 hte ⊢
    have HE0 := Lib.hid E0
    have HI3 := Lib.hid I3
    have HTE := Lib.hid hte
    clear E0 I3 hte HI2
    go_loopw [60] (fun iv wr => ∃ i : Nat, i ≤ 8 ∧ iv = .int .i64 i ∧ CInv w tb wr ∧ EI E 8 wr) (fun iv _ => 8 - (RowKit.intOf iv).toNat)
    case atStart => exact ⟨0, by omega, rfl, HI3.out, HE0.out⟩
    case round =>
      clear HE0 HI3
      obtain ⟨i, hi8, rfl, I4, E4⟩ := hrel
      by_cases hlt : i < 8
      · obtain ⟨x, hx⟩ := E4.2 i hlt
        have HI4 := Lib.hid I4
        have HE4 := Lib.hid E4
        have HX := Lib.hid hx
        clear I4 E4
        obtain ⟨dy, dm, dd, P1, P2⟩ := date_pair x
        obtain ⟨np, nq, P3, P4⟩ := next_pair x
        obtain ⟨bv, P5, P6⟩ := valid_pair x
        obtain ⟨yp, P7, P8⟩ := year_pair x
        obtain ⟨mp, P9, P10⟩ := month_pair x
        obtain ⟨bb, P11, P12⟩ := business_pair x
        obtain ⟨tx, htx, P13, P14⟩ := text_pair x
        have Q1 := Lib.hid P1
        have Q2 := Lib.hid P2
        have Q3 := Lib.hid P3
        have Q4 := Lib.hid P4
        have Q5 := Lib.hid P5
        have Q6 := Lib.hid P6
        have Q7 := Lib.hid P7
        have Q8 := Lib.hid P8
        have Q9 := Lib.hid P9
        have Q10 := Lib.hid P10
        have Q11 := Lib.hid P11
        have Q12 := Lib.hid P12
        have Q13 := Lib.hid P13
        have Q14 := Lib.hid P14
        clear P1 P2 P3 P4 P5 P6 P7 P8 P9 P10 P11 P12 P13 P14
        have HTX := Lib.hid htx
        clear htx hx
        have hx' : wr.cell? ⟨E, i, none⟩ = some (.int .i64 x) := HX.out
        go_wp2_with fail
        clear hx'
        refine (Q1.out _).mono ?_
        rintro e w5 ⟨rfl, hb5⟩
        have HI5 := Lib.hid (HI4.out.below hb5)
        have HE5 := Lib.hid (HE4.out.below hb5)
        clear hb5 HI4 HE4
        go_wp2_with fail
        refine (Q2.out _).mono ?_
        rintro e w' ⟨rfl, rfl⟩
        go_wp2_with fail
        refine (Q3.out _).mono ?_
        rintro e w' ⟨rfl, rfl⟩
        go_wp2_with fail
        refine (Q4.out _).mono ?_
        rintro e w' ⟨rfl, rfl⟩
        go_wp2_with fail
        refine (Q5.out _).mono ?_
        rintro e w' ⟨rfl, rfl⟩
        go_wp2_with fail
        refine (Q6.out _).mono ?_
        rintro e w' ⟨rfl, rfl⟩
        go_wp2_with fail
        refine (Q7.out _).mono ?_
        rintro e w' ⟨rfl, rfl⟩
        go_wp2_with fail
        refine (Q8.out _).mono ?_
        rintro e w' ⟨rfl, rfl⟩
        go_wp2_with fail
        refine (Q9.out _).mono ?_
        rintro e w' ⟨rfl, rfl⟩
        go_wp2_with fail
        refine (Q10.out _).mono ?_
        rintro e w' ⟨rfl, rfl⟩
        go_wp2_with fail
        refine (Q11.out _).mono ?_
        rintro e w' ⟨rfl, rfl⟩
        go_wp2_with fail
        refine (Q12.out _).mono ?_
        rintro e w' ⟨rfl, rfl⟩
        go_wp2_with fail
        refine (Q13.out _ HI5.out.lay).mono ?_
        rintro e w6 ⟨rfl, hb6⟩
        have HI6 := Lib.hid (HI5.out.below hb6)
        have HE6 := Lib.hid (HE5.out.below hb6)
        clear hb6 HI5 HE5
        go_wp2_with fail
        refine (Q14.out _ HI6.out.lay).mono ?_
        rintro e w7 ⟨rfl, hb7⟩
        have HI7 := Lib.hid (HI6.out.below hb7)
        have HE7 := Lib.hid (HE6.out.below hb7)
        clear hb7 HI6 HE6
        go_wp2_with fail
        refine (N_c HI7.out 200 (by omega) (by omega)).mono ?_
        rintro e w8 ⟨r2, rfl, r20, r21, i8, hg8⟩
        have HI8 := Lib.hid i8
        have HE8 := Lib.hid (HE7.out.grown hg8 HTE.out)
        clear i8 hg8 HI7 HE7
        go_wp2_with fail
        refine (N_c HI8.out 200 (by omega) (by omega)).mono ?_
        rintro e w9 ⟨r3, rfl, r30, r31, i9, hg9⟩
        have HI9 := Lib.hid i9
        have HE9 := Lib.hid (HE8.out.grown hg9 HTE.out)
        clear i9 hg9 HI8 HE8
        go_wp2_with fail
        refine (N_c HI9.out 400 (by omega) (by omega)).mono ?_
        rintro e w10 ⟨r4, rfl, r40, r41, i10, hg10⟩
        have HI10 := Lib.hid i10
        have HE10 := Lib.hid (HE9.out.grown hg10 HTE.out)
        clear i10 hg10 HI9 HE9
        go_wp2_with fail
        have E11 := EI.new w10 [.int .i64 b, .int .i64 c, .int .i64 r2, .int .i64 (-r3), .int .i64 (wrap64 (x + r4)), .int .i64 4611686018427387904] 3 6 (fun j hj => by
          rcases lt_six hj with rfl | rfl | rfl | rfl | rfl | rfl <;> exact ⟨_, rfl⟩)
        have hbw := below_alloc w10 (.cells #[.int .i64 b, .int .i64 c, .int .i64 r2, .int .i64 (-r3), .int .i64 (wrap64 (x + r4)), .int .i64 4611686018427387904] 3)
        have I11 := HI10.out.below hbw
        have E12 := HE10.out.below hbw
        clear hbw
        generalize w10.alloc (.cells #[.int .i64 b, .int .i64 c, .int .i64 r2, .int .i64 (-r3), .int .i64 (wrap64 (x + r4)), .int .i64 4611686018427387904] 3) = W1 at E11 E12 I11 ⊢
        generalize w10.heap.size = F at E11 ⊢
        have HE11 := Lib.hid E11
        have HI11 := Lib.hid I11
        have HE12 := Lib.hid E12
        clear E11 E12 I11 HI10 HE10 r20 r21 r30 r31 r40 r41
        go_loopw [157] (fun iv wr => ∃ j : Nat, j ≤ 6 ∧ iv = .int .i64 j ∧ CInv w tb wr ∧ EI E 8 wr ∧ EI F 6 wr) (fun iv _ => 6 - (RowKit.intOf iv).toNat)
        case atStart => exact ⟨0, by omega, rfl, HI11.out, HE12.out, HE11.out⟩
        case round =>
          clear HE11 HI11 HE12
          obtain ⟨j, hj6, rfl, J1, J2, J3⟩ := hrel
          by_cases hjl : j < 6
          · obtain ⟨z, hz⟩ := J3.2 j hjl
            obtain ⟨p1, q1, P1, P2⟩ := months_pair x z
            obtain ⟨p2, q2, P3, P4⟩ := count_pair x z
            have R1 := Lib.hid P1
            have R2 := Lib.hid P2
            have R3 := Lib.hid P3
            have R4 := Lib.hid P4
            have HJ1 := Lib.hid J1
            have HJ2 := Lib.hid J2
            have HJ3 := Lib.hid J3
            clear P1 P2 P3 P4 J1 J2 J3
            go_wp2_with fail
            clear hz
            refine (R1.out _).mono ?_
            rintro e w' ⟨rfl, rfl⟩
            go_wp2_with fail
            refine (R2.out _).mono ?_
            rintro e w' ⟨rfl, rfl⟩
            go_wp2_with fail
            refine (R3.out _).mono ?_
            rintro e w' ⟨rfl, rfl⟩
            go_wp2_with fail
            refine (R4.out _).mono ?_
            rintro e w' ⟨rfl, rfl⟩
            go_wp2_with fail
            go_roundw
            case rel => exact ⟨j + 1, by omega, by go_num, HJ1.out, HJ2.out, HJ3.out⟩
            case measure => simp [RowKit.intOf]; omega
          · obtain rfl : j = 6 := by omega
            have HJ1 := Lib.hid J1
            have HJ2 := Lib.hid J2
            clear J1 J2 J3 hjl hj6
            go_wp2_with fail
            refine (Q14.out _ HJ1.out.lay).mono ?_
            rintro e v1 ⟨rfl, hb1⟩
            have HK1 := Lib.hid (HJ1.out.below hb1)
            have HK2 := Lib.hid (HJ2.out.below hb1)
            clear hb1 HJ1 HJ2
            go_wp2_with fail
            refine (Spoilt_any (HK1.out.below (below_alloc v1 _)) tx HTX.out v1.heap.size 6 6 HK1.out.tape.lt (by simp) (by omega) (by omega) (words_new v1 _)).mono ?_
            rintro e v2 ⟨sp, rfl, hsp, k3, hg3⟩
            obtain ⟨kk, gg, hkg, P1, _⟩ := parse_pair sp (by have := HTX.out; omega)
            have R1 := Lib.hid P1
            have HK3 := Lib.hid k3
            have HK4 := Lib.hid ((HK2.out.below (below_alloc v1 _)).grown hg3 HTE.out)
            clear P1 k3 hg3 hsp HK1 HK2
            go_wp2_with fail
            refine (R1.out _ HK3.out.lay).mono ?_
            rintro e v3 ⟨rfl, hb3⟩
            have HK5 := Lib.hid (HK3.out.below hb3)
            have HK6 := Lib.hid (HK4.out.below hb3)
            clear hb3 HK3 HK4 R1
            rcases hkg with ⟨hk0, hk1, rfl⟩ | ⟨rfl, rfl⟩
            · have HV := Lib.hid (dayB_true.2 ⟨hk0, hk1⟩ : dayB kk = true)
              clear hk0 hk1
              go_wp2_with fail
              refine (rcValid_yes _ HV.out).mono ?_
              rintro e w' ⟨rfl, rfl⟩
              go_wp2_with fail
              go_roundw
              case rel => exact ⟨i + 1, by omega, by go_num, HK5.out, HK6.out⟩
              case measure => simp [RowKit.intOf]; omega
            · go_wp2_with fail
              go_roundw
              case rel => exact ⟨i + 1, by omega, by go_num, HK5.out, HK6.out⟩
              case measure => simp [RowKit.intOf]; omega
      · obtain rfl : i = 8 := by omega
        have HI4 := Lib.hid I4
        clear I4 E4 hlt hi8
        go_wp2_with fail
        refine (N_c HI4.out 101 (by omega) (by omega)).mono ?_
        rintro e w5 ⟨r5, rfl, _, _, i5, _⟩
        have HI5 := Lib.hid i5
        clear i5 HI4
        go_wp2_with fail
        refine (N_c HI5.out 14 (by omega) (by omega)).mono ?_
        rintro e w6 ⟨r6, rfl, _, _, i6, _⟩
        have HI6 := Lib.hid i6
        clear i6 HI5
        go_wp2_with fail
        refine (N_c HI6.out 32 (by omega) (by omega)).mono ?_
        rintro e w7 ⟨r7, rfl, _, _, i7, _⟩
        have HI7 := Lib.hid i7
        clear i7 HI6
        go_wp2_with fail
        have G8 := EI.new w7 [.int .i64 a, .int .i64 b, .int .i64 c, .int .i64 r5, .int .i64 r6, .int .i64 r7, .int .i64 100, .int .i64 1, .int .i64 1, .int .i64 99, .int .i64 12, .int .i64 30] 38 12 (fun j hj => by
          rcases lt_twelve hj with rfl | rfl | rfl | rfl | rfl | rfl | rfl | rfl | rfl | rfl | rfl | rfl <;> exact ⟨_, rfl⟩)
        have I8 := HI7.out.below (below_alloc w7 (.cells #[.int .i64 a, .int .i64 b, .int .i64 c, .int .i64 r5, .int .i64 r6, .int .i64 r7, .int .i64 100, .int .i64 1, .int .i64 1, .int .i64 99, .int .i64 12, .int .i64 30] 38))
        generalize w7.alloc (.cells #[.int .i64 a, .int .i64 b, .int .i64 c, .int .i64 r5, .int .i64 r6, .int .i64 r7, .int .i64 100, .int .i64 1, .int .i64 1, .int .i64 99, .int .i64 12, .int .i64 30] 38) = W2 at G8 I8 ⊢
        generalize w7.heap.size = G at G8 ⊢
        have HG8 := Lib.hid G8
        have HI8 := Lib.hid I8
        clear G8 I8 HI7
        go_loopw [244] (fun iv wr => ∃ j : Int, (j = 0 ∨ j = 1 ∨ j = 2 ∨ j = 3 ∨ j = 4) ∧ iv = .int .i64 j ∧ CInv w tb wr ∧ EI G 12 wr) (fun iv _ => 4 - (RowKit.intOf iv).toNat)
        case atStart => exact ⟨0, by omega, rfl, HI8.out, HG8.out⟩
        case round =>
          clear HG8 HI8
          obtain ⟨j, hj, rfl, K1, K2⟩ := hrel
          rcases hj with rfl | rfl | rfl | rfl | rfl
          · obtain ⟨x0, h0⟩ := K2.2 0 (by omega)
            obtain ⟨x1, h1⟩ := K2.2 1 (by omega)
            obtain ⟨x2, h2⟩ := K2.2 2 (by omega)
            obtain ⟨p1, q1, P1, P2⟩ := day_pair x0 x1 x2
            have R1 := Lib.hid P1
            have R2 := Lib.hid P2
            have HK1 := Lib.hid K1
            have HK2 := Lib.hid K2
            clear P1 P2 K1 K2
            go_wp2_with fail
            refine (R1.out _).mono ?_
            rintro e w' ⟨rfl, rfl⟩
            go_wp2_with fail
            refine (R2.out _).mono ?_
            rintro e w' ⟨rfl, rfl⟩
            clear h0 h1 h2
            go_wp2_with fail
            go_roundw
            case rel => exact ⟨1, by omega, by first | rfl | go_num, HK1.out.below (below_alloc _ _), HK2.out.below (below_alloc _ _)⟩
            case measure => simp [RowKit.intOf]
          · obtain ⟨x0, h0⟩ := K2.2 3 (by omega)
            obtain ⟨x1, h1⟩ := K2.2 4 (by omega)
            obtain ⟨x2, h2⟩ := K2.2 5 (by omega)
            obtain ⟨p1, q1, P1, P2⟩ := day_pair x0 x1 x2
            have R1 := Lib.hid P1
            have R2 := Lib.hid P2
            have HK1 := Lib.hid K1
            have HK2 := Lib.hid K2
            clear P1 P2 K1 K2
            go_wp2_with fail
            refine (R1.out _).mono ?_
            rintro e w' ⟨rfl, rfl⟩
            go_wp2_with fail
            refine (R2.out _).mono ?_
            rintro e w' ⟨rfl, rfl⟩
            clear h0 h1 h2
            go_wp2_with fail
            go_roundw
            case rel => exact ⟨2, by omega, by first | rfl | go_num, HK1.out.below (below_alloc _ _), HK2.out.below (below_alloc _ _)⟩
            case measure => simp [RowKit.intOf]
          · obtain ⟨x0, h0⟩ := K2.2 6 (by omega)
            obtain ⟨x1, h1⟩ := K2.2 7 (by omega)
            obtain ⟨x2, h2⟩ := K2.2 8 (by omega)
            obtain ⟨p1, q1, P1, P2⟩ := day_pair x0 x1 x2
            have R1 := Lib.hid P1
            have R2 := Lib.hid P2
            have HK1 := Lib.hid K1
            have HK2 := Lib.hid K2
            clear P1 P2 K1 K2
            go_wp2_with fail
            refine (R1.out _).mono ?_
            rintro e w' ⟨rfl, rfl⟩
            go_wp2_with fail
            refine (R2.out _).mono ?_
            rintro e w' ⟨rfl, rfl⟩
            clear h0 h1 h2
            go_wp2_with fail
            go_roundw
            case rel => exact ⟨3, by omega, by first | rfl | go_num, HK1.out.below (below_alloc _ _), HK2.out.below (below_alloc _ _)⟩
            case measure => simp [RowKit.intOf]
          · obtain ⟨x0, h0⟩ := K2.2 9 (by omega)
            obtain ⟨x1, h1⟩ := K2.2 10 (by omega)
            obtain ⟨x2, h2⟩ := K2.2 11 (by omega)
            obtain ⟨p1, q1, P1, P2⟩ := day_pair x0 x1 x2
            have R1 := Lib.hid P1
            have R2 := Lib.hid P2
            have HK1 := Lib.hid K1
            have HK2 := Lib.hid K2
            clear P1 P2 K1 K2
            go_wp2_with fail
            refine (R1.out _).mono ?_
            rintro e w' ⟨rfl, rfl⟩
            go_wp2_with fail
            refine (R2.out _).mono ?_
            rintro e w' ⟨rfl, rfl⟩
            clear h0 h1 h2
            go_wp2_with fail
            go_roundw
            case rel => exact ⟨4, by omega, by first | rfl | go_num, HK1.out.below (below_alloc _ _), HK2.out.below (below_alloc _ _)⟩
            case measure => simp [RowKit.intOf]
          · have HK1 := Lib.hid K1
            clear K1 K2
            go_wp2_with fail
            refine (N_c HK1.out 36000 (by omega) (by omega)).mono ?_
            rintro e w8 ⟨r8, rfl, _, _, i8, _⟩
            obtain ⟨t8, ht8, _, P8⟩ := text_pair r8
            have HI8 := Lib.hid i8
            have R8 := Lib.hid P8
            have HT8 := Lib.hid ht8
            clear i8 HK1 P8 ht8
            go_wp2_with fail
            refine (R8.out _ HI8.out.lay).mono ?_
            rintro e v8 ⟨rfl, hb8⟩
            have HJ8 := Lib.hid (HI8.out.below hb8)
            clear hb8 HI8
            go_wp2_with fail
            refine (N_c HJ8.out 36000 (by omega) (by omega)).mono ?_
            rintro e w9 ⟨r9, rfl, _, _, i9, _⟩
            obtain ⟨t9, ht9, _, P9⟩ := text_pair r9
            have HI9 := Lib.hid i9
            have R9 := Lib.hid P9
            have HT9 := Lib.hid ht9
            clear i9 HJ8 P9 ht9
            go_wp2_with fail
            refine (R9.out _ HI9.out.lay).mono ?_
            rintro e v9 ⟨rfl, hb9⟩
            have HJ9 := Lib.hid (HI9.out.below hb9)
            clear hb9 HI9
            go_wp2_with fail
            refine (Spoilt_any (HJ9.out.below (below_alloc v9 _)) t9 HT9.out v9.heap.size 6 6 HJ9.out.tape.lt (by simp) (by omega) (by omega) (words_new v9 _)).mono ?_
            rintro e u0 ⟨t0, rfl, ht0, k0, _⟩
            have HT0 := Lib.hid ht0
            have HK0 := Lib.hid k0
            clear ht0 k0 HJ9
            go_wp2_with fail
            have S0 := SI.new u0 9 s t8 t0 (by have := HS.out; omega) (by have := HT8.out; omega) (by have := HT0.out; have := HT9.out; omega)
            have I0 := HK0.out.below (below_alloc u0 (.cells #[.string s, .string t8, .string t0] 9))
            generalize u0.alloc (.cells #[.string s, .string t8, .string t0] 9) = W3 at S0 I0 ⊢
            generalize u0.heap.size = D at S0 ⊢
            have HS0 := Lib.hid S0
            have HI0 := Lib.hid I0
            clear S0 I0 HK0
            go_loopw [289] (fun iv wr => ∃ j : Nat, j ≤ 3 ∧ iv = .int .i64 j ∧ CInv w tb wr ∧ SI D wr) (fun iv _ => 3 - (RowKit.intOf iv).toNat)
            case atStart => exact ⟨0, by omega, rfl, HI0.out, HS0.out⟩
            case round =>
              clear HS0 HI0
              obtain ⟨j, hj3, rfl, K1, K2⟩ := hrel
              by_cases hjl : j < 3
              · obtain ⟨tt, htt, hcell⟩ := K2.2 j hjl
                obtain ⟨p1, q1, _, P1, P2⟩ := parse_pair tt htt
                have R1 := Lib.hid P1
                have R2 := Lib.hid P2
                have HK1 := Lib.hid K1
                have HK2 := Lib.hid K2
                clear P1 P2 K1 K2 htt
                go_wp2_with fail
                clear hcell
                refine (R1.out _ HK1.out.lay).mono ?_
                rintro e u1 ⟨rfl, hb1⟩
                have HK3 := Lib.hid (HK1.out.below hb1)
                have HK4 := Lib.hid (HK2.out.below hb1)
                clear hb1 HK1 HK2
                go_wp2_with fail
                refine (R2.out _ HK3.out.lay).mono ?_
                rintro e u2 ⟨rfl, hb2⟩
                have HK5 := Lib.hid (HK3.out.below hb2)
                have HK6 := Lib.hid (HK4.out.below hb2)
                clear hb2 HK3 HK4
                go_wp2_with fail
                go_roundw
                case rel => exact ⟨j + 1, by omega, by go_num, HK5.out, HK6.out⟩
                case measure => simp [RowKit.intOf]; omega
              · obtain rfl : j = 3 := by omega
                have HK1 := Lib.hid K1
                clear K1 K2 hjl hj3
                go_wp2_with fail
                refine (HAW.out _).mono ?_
                rintro e w' ⟨rfl, hb⟩
                go_wp2_with fail
                go_ret
                exact ⟨rfl, (HK1.out.below hb).old⟩

end Go.Proofs.YtgnjboebnobjcaaDoor
