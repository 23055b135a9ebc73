/- The walk of ArticleAnswers: all functions of the layer answer as the references; for every list of numbers, any two articles, and every text. -/
import Derived.Test.YtdgckdmgplpobaaGreatDoorMG6
import Derived.Test.YtdgckdmgplpobaaGreatDoorMRcmp
import Derived.Test.YtdgckdmgplpobaaGreatDoorMRartP
import Derived.Test.YtdgckdmgplpobaaGreatDoorMG5
set_option linter.unusedSimpArgs false
set_option linter.unusedVariables false
namespace Go.Proofs.YtdgckdmgplpobaaGreatDoor
open Go.RowKit Go.Lib Go.Proofs

set_option maxRecDepth 100000 in
set_option maxHeartbeats 8000000 in
theorem lawArtAns_any (v : Value) (n : Nat) (rk : Int) (r1 : ByteArray) (r2 : ByteArray) (r3 : ByteArray) (r4 : Int) (r5 : Int) (r6 : Int) (r7 : Int) (r8 : Int) (r9 : Int) (r10 : Int) (qk : Int) (q1 : ByteArray) (q2 : ByteArray) (q3 : ByteArray) (q4 : Int) (q5 : Int) (q6 : Int) (q7 : Int) (q8 : Int) (q9 : Int) (q10 : Int) (s : ByteArray) (w : World) (hi : IntsAt w v n w.heap.size) (hn : n ≤ 9223372036854775807) (hra : ArtBd ⟨rk, r1, r2, r3, r4, r5, r6, r7, r8, r9, r10⟩) (hqa : ArtBd ⟨qk, q1, q2, q3, q4, q5, q6, q7, q8, q9, q10⟩) (_ : s.size ≤ maxLen) (hL : Lay w) :
    Calls Tryz.prog 3 #[v, .agg #[.int .i64 rk, .string r1, .string r2, .string r3, .int .i64 r4, .int .i64 r5, .int .i64 r6, .int .i64 r7, .int .i64 r8, .int .i64 r9, .int .i64 r10], .agg #[.int .i64 qk, .string q1, .string q2, .string q3, .int .i64 q4, .int .i64 q5, .int .i64 q6, .int .i64 q7, .int .i64 q8, .int .i64 q9, .int .i64 q10], .string s] w fun e w' => e = .returned (.bool true) ∧ Below w.heap.size w w' := by
  have HSR := Lib.hid (fun W => SmallArticle_any rk r1 r2 r3 r4 r5 r6 r7 r8 r9 r10 W)
  have HSQ := Lib.hid (fun W => SmallArticle_any qk q1 q2 q3 q4 q5 q6 q7 q8 q9 q10 W)
  have hsr : smallB ⟨rk, r1, r2, r3, r4, r5, r6, r7, r8, r9, r10⟩ = true → SmA ⟨rk, r1, r2, r3, r4, r5, r6, r7, r8, r9, r10⟩ := fun h => smA_of h hra
  have hsq : smallB ⟨qk, q1, q2, q3, q4, q5, q6, q7, q8, q9, q10⟩ = true → SmA ⟨qk, q1, q2, q3, q4, q5, q6, q7, q8, q9, q10⟩ := fun h => smA_of h hqa
  generalize smallB ⟨rk, r1, r2, r3, r4, r5, r6, r7, r8, r9, r10⟩ = sr at *
  generalize smallB ⟨qk, q1, q2, q3, q4, q5, q6, q7, q8, q9, q10⟩ = sq at *
  have HAW := Lib.hid (fun W (hW : Below w.heap.size w W) => awake04_any W (hL.below hW (Nat.le_refl _)))
  have HNEW := Lib.hid (fun W (hW : Below w.heap.size w W) => New_any v n W (ints_later hi hW) hn)
  have HL := Lib.hid (fun W (hW : Below w.heap.size w W) => hL.below hW (Nat.le_refl _))
  have HRS := Lib.hid hsr
  have HQS := Lib.hid hsq
  have h2 := two_boxes w ⟨rk, r1, r2, r3, r4, r5, r6, r7, r8, r9, r10⟩ ⟨qk, q1, q2, q3, q4, q5, q6, q7, q8, q9, q10⟩
  simp only [Art.cells] at h2
  have H2 := Lib.hid h2
  clear hsr hsq hi hn hL hra hqa h2
  go_enter Tryz.func3, Tryz.ntmps3
  go_wp2_with fail
  refine (HSR.out _).mono ?_
  rintro e w1 ⟨rfl, hb1⟩
  have H3 : Hid (ArtAt w1 w.heap.size ⟨rk, r1, r2, r3, r4, r5, r6, r7, r8, r9, r10⟩ ∧ ArtAt w1 (w.heap.size + 1) ⟨qk, q1, q2, q3, q4, q5, q6, q7, q8, q9, q10⟩ ∧ Below w.heap.size w w1) := Lib.hid ⟨H2.out.1.below hb1, H2.out.2.1.below hb1, H2.out.2.2.trans (hb1.mono H2.out.2.2.size)⟩
  have uq := art_cell H3.out.2.1
  simp only [Art.cells] at uq
  clear hb1 H2 HSR
  cases sr with
  | false =>
    clear uq
    go_wp2_with fail
    refine (HAW.out _ H3.out.2.2).mono ?_
    rintro e w2 ⟨rfl, hb2⟩
    have HB2 := Lib.hid (H3.out.2.2.trans (hb2.mono H3.out.2.2.size))
    clear hb2
    go_wp2_with fail
    go_ret
    exact ⟨rfl, HB2.out⟩
  | true =>
  go_wp2_with fail
  refine (HSQ.out _).mono ?_
  rintro e w2 ⟨rfl, hb2⟩
  have H4 : Hid (ArtAt w2 w.heap.size ⟨rk, r1, r2, r3, r4, r5, r6, r7, r8, r9, r10⟩ ∧ ArtAt w2 (w.heap.size + 1) ⟨qk, q1, q2, q3, q4, q5, q6, q7, q8, q9, q10⟩ ∧ Below w.heap.size w w2) := Lib.hid ⟨H3.out.1.below hb2, H3.out.2.1.below hb2, H3.out.2.2.trans (hb2.mono H3.out.2.2.size)⟩
  clear hb2 H3 HSQ uq
  cases sq with
  | false =>
    go_wp2_with fail
    refine (HAW.out _ H4.out.2.2).mono ?_
    rintro e w3 ⟨rfl, hb3⟩
    have HB3 := Lib.hid (H4.out.2.2.trans (hb3.mono H4.out.2.2.size))
    clear hb3
    go_wp2_with fail
    go_ret
    exact ⟨rfl, HB3.out⟩
  | true =>
  by_cases hlong : 1000 < s.size
  · have h1 : (1000 : Int) < (s.size : Int) := by omega
    clear hlong
    go_wp2_with fail
    refine (HAW.out _ H4.out.2.2).mono ?_
    rintro e w3 ⟨rfl, hb3⟩
    have HB3 := Lib.hid (H4.out.2.2.trans (hb3.mono H4.out.2.2.size))
    clear hb3
    go_wp2_with fail
    go_ret
    exact ⟨rfl, HB3.out⟩
  have h1 : ¬ (1000 : Int) < (s.size : Int) := by omega
  have hs1 : s.size ≤ 1000 := by omega
  clear hlong
  have HSR := Lib.hid (HRS.out (by first | rfl | trivial))
  have HSQ := Lib.hid (HQS.out (by first | rfl | trivial))
  clear HRS HQS
  go_wp2_with fail
  refine (HNEW.out _ H4.out.2.2).mono ?_
  rintro e w3 ⟨rfl, t3, b3⟩
  have hfar : w.heap.size + 2 ≤ w2.heap.size := by have := H4.out.2.1.lt; omega
  have H5 : Hid (A0 w w2.heap.size w.heap.size (w.heap.size + 1) ⟨rk, r1, r2, r3, r4, r5, r6, r7, r8, r9, r10⟩ ⟨qk, q1, q2, q3, q4, q5, q6, q7, q8, q9, q10⟩ w3) := Lib.hid ⟨H4.out.1.below b3, H4.out.2.1.below b3, t3, H4.out.2.2.trans (b3.mono H4.out.2.2.size), by omega, by omega, by omega⟩
  clear t3 b3 H4 HNEW hfar h1
  generalize w2.heap.size = tb at *
  have HT := Lib.hid (Tree_any tb 6 w3 H5.out.tape (by omega))
  go_wp2_with fail
  refine (HT.out).mono ?_
  rintro e w4 ⟨l, ls, hs, rfl, t4, o4, htree, g4⟩
  obtain ⟨g, cap, cs, rfl, hcap, hg1, hglt, hheads, hcodes⟩ := heads_at (tb := tb) o4 htree H5.out.tape.lt
  have hlen : 1 ≤ hs.length ∧ hs.length ≤ 1000 := by
    have hl : hs.length = ls.length := by
      have := congrArg List.length htree.codes
      rwa [List.length_map, texts_len] at this
    have := htree.pos
    have := htree.len
    omega
  have H6 := Lib.hid (H5.out.turn t4 g4)
  obtain ⟨m, hm⟩ : ∃ m, m = hs.length := ⟨_, rfl⟩
  rw [← hm] at hcap hheads hcodes hlen ⊢
  have HMK := Lib.hid (mkArticle_any tb g m cap cs 12 3 w4 t4 hheads hglt hlen hcap hcodes (by omega) (by omega) (by omega))
  clear hm o4 htree g4 hheads t4 HT hcodes hlen hcap hg1 hglt H5
  go_wp2_with fail
  refine (HMK.out).mono ?_
  rintro e w5 ⟨a, rfl, pa, t5, g5⟩
  have H7 := Lib.hid (H6.out.turn t5 g5)
  have HSA := Lib.hid (plain_small pa)
  clear t5 g5 H6 HMK pa
  obtain ⟨ak, a1, a2, a3, a4, a5, a6, a7, a8, a9, a10⟩ := a
  have HN7 := Lib.hid (AnInv.new ⟨ak, a1, a2, a3, a4, a5, a6, a7, a8, a9, a10⟩ H7.out)
  have HBA := Lib.hid (BentArticle_any tb ak a1 a2 a3 a4 a5 a6 a7 a8 a9 a10 _ HN7.out.tape HSA.out)
  have ua := art_cell HN7.out.art
  simp only [Art.cells] at ua HN7 HBA ⊢
  clear H7
  go_wp2_with fail
  refine (HBA.out).mono ?_
  rintro e w6 ⟨b, rfl, sb, t6, g6⟩
  have H8 := Lib.hid (HN7.out.turn t6 g6)
  have HSB := Lib.hid sb
  clear t6 g6 HN7 HBA ua sb
  generalize w5.heap.size = qa at *
  obtain ⟨bk, b1, b2, b3, b4, b5, b6, b7, b8, b9, b10⟩ := b
  have HN8 := Lib.hid (BnInv.new ⟨bk, b1, b2, b3, b4, b5, b6, b7, b8, b9, b10⟩ H8.out)
  simp only [Art.cells] at HN8 ⊢
  clear H8
  obtain ⟨J, hJ⟩ : ∃ J, J = BnInv w tb w.heap.size (w.heap.size + 1) qa w6.heap.size ⟨rk, r1, r2, r3, r4, r5, r6, r7, r8, r9, r10⟩ ⟨qk, q1, q2, q3, q4, q5, q6, q7, q8, q9, q10⟩ ⟨ak, a1, a2, a3, a4, a5, a6, a7, a8, a9, a10⟩ ⟨bk, b1, b2, b3, b4, b5, b6, b7, b8, b9, b10⟩ := ⟨_, rfl⟩
  have HBT : Hid (∀ W, J W → Calls Tryz.prog 9 #[.pointer (some ⟨tb, 0, none⟩), .agg #[.int .i64 bk, .string b1, .string b2, .string b3, .int .i64 b4, .int .i64 b5, .int .i64 b6, .int .i64 b7, .int .i64 b8, .int .i64 b9, .int .i64 b10]] W (BtI J)) := Lib.hid fun W hW => by
    rw [hJ] at hW ⊢
    refine (BentArticle_any tb bk b1 b2 b3 b4 b5 b6 b7 b8 b9 b10 W hW.tape HSB.out).mono ?_
    rintro e w' ⟨⟨ck, c1, c2, c3, c4, c5, c6, c7, c8, c9, c10⟩, he, hs, ht, hg⟩
    exact ⟨ck, c4, c5, c6, c7, c8, c9, c10, c1, c2, c3, he, hs, hW.turn ht hg⟩
  have HDR : Hid (∀ W, J W → J W.drew) := Lib.hid fun W hW => by
    rw [hJ] at hW ⊢
    exact hW.later (Below.refl _ _).drew
  have HAL : Hid (∀ W o, J W → J (W.alloc o)) := Lib.hid fun W o hW => by
    rw [hJ] at hW ⊢
    exact hW.later (below_alloc _ _)
  have HCE : Hid (∀ W, J W → (∀ j, W.cell? ⟨w.heap.size, j, none⟩ = #[.int .i64 rk, .string r1, .string r2, .string r3, .int .i64 r4, .int .i64 r5, .int .i64 r6, .int .i64 r7, .int .i64 r8, .int .i64 r9, .int .i64 r10][j]?) ∧ (∀ j, W.cell? ⟨qa, j, none⟩ = #[.int .i64 ak, .string a1, .string a2, .string a3, .int .i64 a4, .int .i64 a5, .int .i64 a6, .int .i64 a7, .int .i64 a8, .int .i64 a9, .int .i64 a10][j]?) ∧ (∀ j, W.cell? ⟨w6.heap.size, j, none⟩ = #[.int .i64 bk, .string b1, .string b2, .string b3, .int .i64 b4, .int .i64 b5, .int .i64 b6, .int .i64 b7, .int .i64 b8, .int .i64 b9, .int .i64 b10][j]?)) := Lib.hid fun W hW => by
    rw [hJ] at hW
    exact ⟨fun j => art_cell hW.raw j, fun j => art_cell hW.art j, fun j => art_cell hW.bent j⟩
  have HN9 : Hid (J (w6.alloc (.cells #[.int .i64 bk, .string b1, .string b2, .string b3, .int .i64 b4, .int .i64 b5, .int .i64 b6, .int .i64 b7, .int .i64 b8, .int .i64 b9, .int .i64 b10] 24))) := Lib.hid (by rw [hJ]; exact HN8.out)
  have HJO : Hid (∀ W, J W → AnInv w tb w.heap.size (w.heap.size + 1) qa ⟨rk, r1, r2, r3, r4, r5, r6, r7, r8, r9, r10⟩ ⟨qk, q1, q2, q3, q4, q5, q6, q7, q8, q9, q10⟩ ⟨ak, a1, a2, a3, a4, a5, a6, a7, a8, a9, a10⟩ W) := Lib.hid fun W hW => by
    rw [hJ] at hW
    exact hW.toAnInv
  clear hJ HN8
  go_upto_region 7 with fail
  have hnew := HN9.out
  have hcs := HCE.out _ hnew
  go_region_held3 (fun W => (∀ j, W.cell? ⟨w.heap.size, j, none⟩ = #[.int .i64 rk, .string r1, .string r2, .string r3, .int .i64 r4, .int .i64 r5, .int .i64 r6, .int .i64 r7, .int .i64 r8, .int .i64 r9, .int .i64 r10][j]?) ∧ (∀ j, W.cell? ⟨qa, j, none⟩ = #[.int .i64 ak, .string a1, .string a2, .string a3, .int .i64 a4, .int .i64 a5, .int .i64 a6, .int .i64 a7, .int .i64 a8, .int .i64 a9, .int .i64 a10][j]?) ∧ (∀ j, W.cell? ⟨w6.heap.size, j, none⟩ = #[.int .i64 bk, .string b1, .string b2, .string b3, .int .i64 b4, .int .i64 b5, .int .i64 b6, .int .i64 b7, .int .i64 b8, .int .i64 b9, .int .i64 b10][j]?))
    (first | exact HCE.out _ (by assumption) | exact HCE.out _ (HDR.out _ (by assumption)) | exact HCE.out _ (HAL.out _ _ (by assumption)))
    (first | (go_at_call 9; (with_reducible refine (HBT.out _ (by first | assumption | exact HDR.out _ (by assumption))).mono ?_); rintro e w' ⟨ck, c4, c5, c6, c7, c8, c9, c10, c1, c2, c3, rfl, hsc, hinv⟩))
  have HO1 : Hid (O1 w tb w.heap.size (w.heap.size + 1) qa w'.heap.size ⟨rk, r1, r2, r3, r4, r5, r6, r7, r8, r9, r10⟩ ⟨qk, q1, q2, q3, q4, q5, q6, q7, q8, q9, q10⟩ ⟨ak, a1, a2, a3, a4, a5, a6, a7, a8, a9, a10⟩ (w'.alloc (.cells #[.int .i64 ak, .string a1, .string a2, .string a3, .int .i64 a4, .int .i64 a5, .int .i64 a6, .int .i64 a7, .int .i64 a8, .int .i64 a9, .int .i64 a10, .int .i64 bk, .string b1, .string b2, .string b3, .int .i64 b4, .int .i64 b5, .int .i64 b6, .int .i64 b7, .int .i64 b8, .int .i64 b9, .int .i64 b10, .int .i64 ck, .string c1, .string c2, .string c3, .int .i64 c4, .int .i64 c5, .int .i64 c6, .int .i64 c7, .int .i64 c8, .int .i64 c9, .int .i64 c10, .int .i64 rk, .string r1, .string r2, .string r3, .int .i64 r4, .int .i64 r5, .int .i64 r6, .int .i64 r7, .int .i64 r8, .int .i64 r9, .int .i64 r10] 24))) := Lib.hid ⟨HJO.out _ (HAL.out _ _ hinv), ArtRow.new w' #[.int .i64 ak, .string a1, .string a2, .string a3, .int .i64 a4, .int .i64 a5, .int .i64 a6, .int .i64 a7, .int .i64 a8, .int .i64 a9, .int .i64 a10, .int .i64 bk, .string b1, .string b2, .string b3, .int .i64 b4, .int .i64 b5, .int .i64 b6, .int .i64 b7, .int .i64 b8, .int .i64 b9, .int .i64 b10, .int .i64 ck, .string c1, .string c2, .string c3, .int .i64 c4, .int .i64 c5, .int .i64 c6, .int .i64 c7, .int .i64 c8, .int .i64 c9, .int .i64 c10, .int .i64 rk, .string r1, .string r2, .string r3, .int .i64 r4, .int .i64 r5, .int .i64 r6, .int .i64 r7, .int .i64 r8, .int .i64 r9, .int .i64 r10] 4 (four_cells ⟨ak, a1, a2, a3, a4, a5, a6, a7, a8, a9, a10⟩ ⟨bk, b1, b2, b3, b4, b5, b6, b7, b8, b9, b10⟩ ⟨ck, c1, c2, c3, c4, c5, c6, c7, c8, c9, c10⟩ ⟨rk, r1, r2, r3, r4, r5, r6, r7, r8, r9, r10⟩ HSA.out HSB.out hsc HSR.out)⟩
  clear hinv hsc hnew hcs HJO HAL HCE HDR HBT HN9 HSB
  generalize w'.heap.size = G at *
  go_wp2_with fail
  go_loopw [66] (fun i wr => ∃ k : Nat, i = .int .i64 k ∧ k ≤ 4 ∧ Hid (O1 w tb w.heap.size (w.heap.size + 1) qa G ⟨rk, r1, r2, r3, r4, r5, r6, r7, r8, r9, r10⟩ ⟨qk, q1, q2, q3, q4, q5, q6, q7, q8, q9, q10⟩ ⟨ak, a1, a2, a3, a4, a5, a6, a7, a8, a9, a10⟩ wr)) (fun i _ => 4 - (RowKit.intOf i).toNat)
  case atStart => exact ⟨0, rfl, by omega, HO1⟩
  case round =>
    obtain ⟨k, rfl, hk4, HW⟩ := hrel
    by_cases hlt : k < 4
    · obtain ⟨⟨xk, x1, x2, x3, x4, x5, x6, x7, x8, x9, x10⟩, hsx, hcx⟩ := HW.out.four.row k hlt
      have z0 : wr.cell? ⟨G, k * 11, none⟩ = some (.int .i64 xk) := hcx 0 (by omega)
      have z1 : wr.cell? ⟨G, k * 11 + 1, none⟩ = some (.string x1) := hcx 1 (by omega)
      have z2 : wr.cell? ⟨G, k * 11 + 2, none⟩ = some (.string x2) := hcx 2 (by omega)
      have z3 : wr.cell? ⟨G, k * 11 + 3, none⟩ = some (.string x3) := hcx 3 (by omega)
      have z4 : wr.cell? ⟨G, k * 11 + 4, none⟩ = some (.int .i64 x4) := hcx 4 (by omega)
      have z5 : wr.cell? ⟨G, k * 11 + 5, none⟩ = some (.int .i64 x5) := hcx 5 (by omega)
      have z6 : wr.cell? ⟨G, k * 11 + 6, none⟩ = some (.int .i64 x6) := hcx 6 (by omega)
      have z7 : wr.cell? ⟨G, k * 11 + 7, none⟩ = some (.int .i64 x7) := hcx 7 (by omega)
      have z8 : wr.cell? ⟨G, k * 11 + 8, none⟩ = some (.int .i64 x8) := hcx 8 (by omega)
      have z9 : wr.cell? ⟨G, k * 11 + 9, none⟩ = some (.int .i64 x9) := hcx 9 (by omega)
      have z10 : wr.cell? ⟨G, k * 11 + 10, none⟩ = some (.int .i64 x10) := hcx 10 (by omega)
      have hk0 : (0 : Int) ≤ (k : Int) := by omega
      have hk1 : (k : Int) < 4 := by omega
      have HSX := Lib.hid hsx
      have HO2 : Hid (O2 w tb w.heap.size (w.heap.size + 1) qa G wr.heap.size ⟨rk, r1, r2, r3, r4, r5, r6, r7, r8, r9, r10⟩ ⟨qk, q1, q2, q3, q4, q5, q6, q7, q8, q9, q10⟩ ⟨ak, a1, a2, a3, a4, a5, a6, a7, a8, a9, a10⟩ ⟨xk, x1, x2, x3, x4, x5, x6, x7, x8, x9, x10⟩ (wr.alloc (.cells #[.int .i64 xk, .string x1, .string x2, .string x3, .int .i64 x4, .int .i64 x5, .int .i64 x6, .int .i64 x7, .int .i64 x8, .int .i64 x9, .int .i64 x10] 24))) := Lib.hid ⟨HW.out.later (below_alloc wr _), heap_alloc_new wr _⟩
      obtain ⟨I, hI⟩ : ∃ I, I = O2 w tb w.heap.size (w.heap.size + 1) qa G wr.heap.size ⟨rk, r1, r2, r3, r4, r5, r6, r7, r8, r9, r10⟩ ⟨qk, q1, q2, q3, q4, q5, q6, q7, q8, q9, q10⟩ ⟨ak, a1, a2, a3, a4, a5, a6, a7, a8, a9, a10⟩ ⟨xk, x1, x2, x3, x4, x5, x6, x7, x8, x9, x10⟩ := ⟨_, rfl⟩
      obtain ⟨d, hd⟩ : ∃ d, d = plainB ⟨xk, x1, x2, x3, x4, x5, x6, x7, x8, x9, x10⟩ := ⟨_, rfl⟩
      obtain ⟨tx, htx⟩ : ∃ tx, tx = textA ⟨xk, x1, x2, x3, x4, x5, x6, x7, x8, x9, x10⟩ := ⟨_, rfl⟩
      have HPL : Hid (∀ W, I W → Calls Tryz.prog 10 #[.agg #[.int .i64 xk, .string x1, .string x2, .string x3, .int .i64 x4, .int .i64 x5, .int .i64 x6, .int .i64 x7, .int .i64 x8, .int .i64 x9, .int .i64 x10]] W fun e w' => e = .returned (.bool d) ∧ I w') := Lib.hid fun W hW => by
        rw [hI] at hW ⊢
        rw [hd]
        exact (plain_any xk x1 x2 x3 x4 x5 x6 x7 x8 x9 x10 W (HL.out W hW.old) hsx.fit).mono fun e w' h => ⟨h.1, hW.later h.2⟩
      have HRP : Hid (∀ W, I W → Calls Tryz.prog 11 #[.agg #[.int .i64 xk, .string x1, .string x2, .string x3, .int .i64 x4, .int .i64 x5, .int .i64 x6, .int .i64 x7, .int .i64 x8, .int .i64 x9, .int .i64 x10]] W fun e w' => e = .returned (.bool d) ∧ I w') := Lib.hid fun W hW => by
        rw [hI] at hW ⊢
        rw [hd]
        exact (rplain_any xk x1 x2 x3 x4 x5 x6 x7 x8 x9 x10 (Nat.le_trans hsx.c (by decide)) (Nat.le_trans hsx.o (by decide)) (Nat.le_trans hsx.n (by decide)) W).mono fun e w' h => ⟨h.1, hW.later h.2⟩
      have HTX : Hid (∀ W, I W → Calls Tryz.prog 12 #[.agg #[.int .i64 xk, .string x1, .string x2, .string x3, .int .i64 x4, .int .i64 x5, .int .i64 x6, .int .i64 x7, .int .i64 x8, .int .i64 x9, .int .i64 x10]] W fun e w' => e = .returned (.string tx) ∧ I w') := Lib.hid fun W hW => by
        rw [hI] at hW ⊢
        rw [htx]
        exact (text_fit xk x1 x2 x3 x4 x5 x6 x7 x8 x9 x10 W (HL.out W hW.old) hsx.fit).mono fun e w' h => ⟨h.1, hW.later h.2⟩
      have HRT : Hid (∀ W, I W → Calls Tryz.prog 13 #[.agg #[.int .i64 xk, .string x1, .string x2, .string x3, .int .i64 x4, .int .i64 x5, .int .i64 x6, .int .i64 x7, .int .i64 x8, .int .i64 x9, .int .i64 x10]] W fun e w' => e = .returned (.string tx) ∧ I w') := Lib.hid fun W hW => by
        rw [hI] at hW ⊢
        rw [htx]
        exact (rtext_any xk x1 x2 x3 x4 x5 x6 x7 x8 x9 x10 (Nat.le_trans hsx.c (by decide)) (Nat.le_trans hsx.o (by decide)) (Nat.le_trans hsx.n (by decide)) W (HL.out W hW.old)).mono fun e w' h => ⟨h.1, hW.later h.2⟩
      have HDR : Hid (∀ W, I W → I W.drew) := Lib.hid fun W hW => by
        rw [hI] at hW ⊢
        exact hW.later (Below.refl _ _).drew
      have HCE : Hid (∀ W, I W → ∀ j, W.cell? ⟨wr.heap.size, j, none⟩ = #[.int .i64 xk, .string x1, .string x2, .string x3, .int .i64 x4, .int .i64 x5, .int .i64 x6, .int .i64 x7, .int .i64 x8, .int .i64 x9, .int .i64 x10][j]?) := Lib.hid fun W hW => by
        rw [hI] at hW
        exact fun j => art_cell hW.look j
      have HNW : Hid (I (wr.alloc (.cells #[.int .i64 xk, .string x1, .string x2, .string x3, .int .i64 x4, .int .i64 x5, .int .i64 x6, .int .i64 x7, .int .i64 x8, .int .i64 x9, .int .i64 x10] 24))) := Lib.hid (by rw [hI]; exact HO2.out)
      have HIO : Hid (∀ W, I W → O2 w tb w.heap.size (w.heap.size + 1) qa G wr.heap.size ⟨rk, r1, r2, r3, r4, r5, r6, r7, r8, r9, r10⟩ ⟨qk, q1, q2, q3, q4, q5, q6, q7, q8, q9, q10⟩ ⟨ak, a1, a2, a3, a4, a5, a6, a7, a8, a9, a10⟩ ⟨xk, x1, x2, x3, x4, x5, x6, x7, x8, x9, x10⟩ W) := Lib.hid fun W hW => by
        rw [hI] at hW
        exact hW
      have hdd : (d != d) = false := by simp
      have htt : (tx.toList == tx.toList) = true := by simp
      clear hI hd htx hsx hcx HO2 HW HO1
      go_upto_region 10 with fail
      have hnew := HNW.out
      have hcs := HCE.out _ hnew
      clear z0 z1 z2 z3 z4 z5 z6 z7 z8 z9 z10
      go_region_held3 (fun W => ∀ j, W.cell? ⟨wr.heap.size, j, none⟩ = #[.int .i64 xk, .string x1, .string x2, .string x3, .int .i64 x4, .int .i64 x5, .int .i64 x6, .int .i64 x7, .int .i64 x8, .int .i64 x9, .int .i64 x10][j]?)
        (first | exact HCE.out _ (by assumption) | exact HCE.out _ (HDR.out _ (by assumption)))
        (first
          | (go_at_call 10; (with_reducible refine (HPL.out _ (by first | assumption | exact HDR.out _ (by assumption))).mono ?_); rintro e w' ⟨rfl, hinv⟩)
          | (go_at_call 11; (with_reducible refine (HRP.out _ (by first | assumption | exact HDR.out _ (by assumption))).mono ?_); rintro e w' ⟨rfl, hinv⟩)
          | (go_at_call 12; (with_reducible refine (HTX.out _ (by first | assumption | exact HDR.out _ (by assumption))).mono ?_); rintro e w' ⟨rfl, hinv⟩)
          | (go_at_call 13; (with_reducible refine (HRT.out _ (by first | assumption | exact HDR.out _ (by assumption))).mono ?_); rintro e w' ⟨rfl, hinv⟩))
      have HO2 := Lib.hid (HIO.out w' (by assumption))
      clear hnew hcs hinv HIO HNW HCE HDR HRT HTX HRP HPL hdd htt
      generalize wr.heap.size = X at *
      have ua := art_cell HO2.out.art
      have uq := art_cell HO2.out.oth
      have ur := art_cell HO2.out.raw
      simp only [Art.cells] at ua uq ur
      go_wp2_with fail
      have HO3 : Hid (O3 w tb w.heap.size (w.heap.size + 1) qa G X w'.heap.size ⟨rk, r1, r2, r3, r4, r5, r6, r7, r8, r9, r10⟩ ⟨qk, q1, q2, q3, q4, q5, q6, q7, q8, q9, q10⟩ ⟨ak, a1, a2, a3, a4, a5, a6, a7, a8, a9, a10⟩ ⟨xk, x1, x2, x3, x4, x5, x6, x7, x8, x9, x10⟩ (w'.alloc (.cells #[.int .i64 ak, .string a1, .string a2, .string a3, .int .i64 a4, .int .i64 a5, .int .i64 a6, .int .i64 a7, .int .i64 a8, .int .i64 a9, .int .i64 a10, .int .i64 qk, .string q1, .string q2, .string q3, .int .i64 q4, .int .i64 q5, .int .i64 q6, .int .i64 q7, .int .i64 q8, .int .i64 q9, .int .i64 q10, .int .i64 rk, .string r1, .string r2, .string r3, .int .i64 r4, .int .i64 r5, .int .i64 r6, .int .i64 r7, .int .i64 r8, .int .i64 r9, .int .i64 r10] 24))) := Lib.hid ⟨HO2.out.later (below_alloc w' _), ArtRow.new w' #[.int .i64 ak, .string a1, .string a2, .string a3, .int .i64 a4, .int .i64 a5, .int .i64 a6, .int .i64 a7, .int .i64 a8, .int .i64 a9, .int .i64 a10, .int .i64 qk, .string q1, .string q2, .string q3, .int .i64 q4, .int .i64 q5, .int .i64 q6, .int .i64 q7, .int .i64 q8, .int .i64 q9, .int .i64 q10, .int .i64 rk, .string r1, .string r2, .string r3, .int .i64 r4, .int .i64 r5, .int .i64 r6, .int .i64 r7, .int .i64 r8, .int .i64 r9, .int .i64 r10] 3 (three_cells ⟨ak, a1, a2, a3, a4, a5, a6, a7, a8, a9, a10⟩ ⟨qk, q1, q2, q3, q4, q5, q6, q7, q8, q9, q10⟩ ⟨rk, r1, r2, r3, r4, r5, r6, r7, r8, r9, r10⟩ HSA.out HSQ.out HSR.out)⟩
      clear ua uq ur HO2
      generalize w'.heap.size = Z at *
      go_loopw [87] (fun i wr => ∃ j : Nat, i = .int .i64 j ∧ j ≤ 3 ∧ Hid (O3 w tb w.heap.size (w.heap.size + 1) qa G X Z ⟨rk, r1, r2, r3, r4, r5, r6, r7, r8, r9, r10⟩ ⟨qk, q1, q2, q3, q4, q5, q6, q7, q8, q9, q10⟩ ⟨ak, a1, a2, a3, a4, a5, a6, a7, a8, a9, a10⟩ ⟨xk, x1, x2, x3, x4, x5, x6, x7, x8, x9, x10⟩ wr)) (fun i _ => 3 - (RowKit.intOf i).toNat)
      case atStart => exact ⟨0, rfl, by omega, HO3⟩
      case round =>
        obtain ⟨j, rfl, hj3, HV⟩ := hrel
        by_cases hlj : j < 3
        · obtain ⟨⟨yk, y1, y2, y3, y4, y5, y6, y7, y8, y9, y10⟩, hsy, hcy⟩ := HV.out.three.row j hlj
          have z0 : wr.cell? ⟨Z, j * 11, none⟩ = some (.int .i64 yk) := hcy 0 (by omega)
          have z1 : wr.cell? ⟨Z, j * 11 + 1, none⟩ = some (.string y1) := hcy 1 (by omega)
          have z2 : wr.cell? ⟨Z, j * 11 + 2, none⟩ = some (.string y2) := hcy 2 (by omega)
          have z3 : wr.cell? ⟨Z, j * 11 + 3, none⟩ = some (.string y3) := hcy 3 (by omega)
          have z4 : wr.cell? ⟨Z, j * 11 + 4, none⟩ = some (.int .i64 y4) := hcy 4 (by omega)
          have z5 : wr.cell? ⟨Z, j * 11 + 5, none⟩ = some (.int .i64 y5) := hcy 5 (by omega)
          have z6 : wr.cell? ⟨Z, j * 11 + 6, none⟩ = some (.int .i64 y6) := hcy 6 (by omega)
          have z7 : wr.cell? ⟨Z, j * 11 + 7, none⟩ = some (.int .i64 y7) := hcy 7 (by omega)
          have z8 : wr.cell? ⟨Z, j * 11 + 8, none⟩ = some (.int .i64 y8) := hcy 8 (by omega)
          have z9 : wr.cell? ⟨Z, j * 11 + 9, none⟩ = some (.int .i64 y9) := hcy 9 (by omega)
          have z10 : wr.cell? ⟨Z, j * 11 + 10, none⟩ = some (.int .i64 y10) := hcy 10 (by omega)
          have hj0 : (0 : Int) ≤ (j : Int) := by omega
          have hj1 : (j : Int) < 3 := by omega
          have hsx := HSX.out
          have HO4 : Hid (O4 w tb w.heap.size (w.heap.size + 1) qa G X Z wr.heap.size ⟨rk, r1, r2, r3, r4, r5, r6, r7, r8, r9, r10⟩ ⟨qk, q1, q2, q3, q4, q5, q6, q7, q8, q9, q10⟩ ⟨ak, a1, a2, a3, a4, a5, a6, a7, a8, a9, a10⟩ ⟨xk, x1, x2, x3, x4, x5, x6, x7, x8, x9, x10⟩ ⟨yk, y1, y2, y3, y4, y5, y6, y7, y8, y9, y10⟩ (wr.alloc (.cells #[.int .i64 yk, .string y1, .string y2, .string y3, .int .i64 y4, .int .i64 y5, .int .i64 y6, .int .i64 y7, .int .i64 y8, .int .i64 y9, .int .i64 y10] 24))) := Lib.hid ⟨HV.out.later (below_alloc wr _), heap_alloc_new wr _⟩
          obtain ⟨I, hI⟩ : ∃ I, I = O4 w tb w.heap.size (w.heap.size + 1) qa G X Z wr.heap.size ⟨rk, r1, r2, r3, r4, r5, r6, r7, r8, r9, r10⟩ ⟨qk, q1, q2, q3, q4, q5, q6, q7, q8, q9, q10⟩ ⟨ak, a1, a2, a3, a4, a5, a6, a7, a8, a9, a10⟩ ⟨xk, x1, x2, x3, x4, x5, x6, x7, x8, x9, x10⟩ ⟨yk, y1, y2, y3, y4, y5, y6, y7, y8, y9, y10⟩ := ⟨_, rfl⟩
          obtain ⟨c, hc⟩ : ∃ c, c = cmpA ⟨xk, x1, x2, x3, x4, x5, x6, x7, x8, x9, x10⟩ ⟨yk, y1, y2, y3, y4, y5, y6, y7, y8, y9, y10⟩ := ⟨_, rfl⟩
          have HCP : Hid (∀ W, I W → Calls Tryz.prog 14 #[.agg #[.int .i64 xk, .string x1, .string x2, .string x3, .int .i64 x4, .int .i64 x5, .int .i64 x6, .int .i64 x7, .int .i64 x8, .int .i64 x9, .int .i64 x10], .agg #[.int .i64 yk, .string y1, .string y2, .string y3, .int .i64 y4, .int .i64 y5, .int .i64 y6, .int .i64 y7, .int .i64 y8, .int .i64 y9, .int .i64 y10]] W fun e w' => e = .returned (.int .i64 c) ∧ I w') := Lib.hid fun W hW => by
            rw [hI] at hW ⊢
            rw [hc]
            exact (compare_any xk x1 x2 x3 x4 x5 x6 x7 x8 x9 x10 yk y1 y2 y3 y4 y5 y6 y7 y8 y9 y10 W (HL.out W hW.old) hsx.fit hsy.fit).mono fun e w' h => ⟨h.1, hW.later h.2⟩
          have HRC : Hid (∀ W, I W → Calls Tryz.prog 15 #[.agg #[.int .i64 xk, .string x1, .string x2, .string x3, .int .i64 x4, .int .i64 x5, .int .i64 x6, .int .i64 x7, .int .i64 x8, .int .i64 x9, .int .i64 x10], .agg #[.int .i64 yk, .string y1, .string y2, .string y3, .int .i64 y4, .int .i64 y5, .int .i64 y6, .int .i64 y7, .int .i64 y8, .int .i64 y9, .int .i64 y10]] W fun e w' => e = .returned (.int .i64 c) ∧ I w') := Lib.hid fun W hW => by
            rw [hI] at hW ⊢
            rw [hc]
            exact (rarCompare_any xk x1 x2 x3 x4 x5 x6 x7 x8 x9 x10 yk y1 y2 y3 y4 y5 y6 y7 y8 y9 y10 (Nat.le_trans hsx.c (by decide)) (Nat.le_trans hsx.o (by decide)) (Nat.le_trans hsx.n (by decide)) (Nat.le_trans hsy.c (by decide)) (Nat.le_trans hsy.o (by decide)) (Nat.le_trans hsy.n (by decide)) W (HL.out W hW.old)).mono fun e w' h => ⟨h.1, hW.later h.2⟩
          have HDR : Hid (∀ W, I W → I W.drew) := Lib.hid fun W hW => by
            rw [hI] at hW ⊢
            exact hW.later (Below.refl _ _).drew
          have HCE : Hid (∀ W, I W → (∀ j, W.cell? ⟨X, j, none⟩ = #[.int .i64 xk, .string x1, .string x2, .string x3, .int .i64 x4, .int .i64 x5, .int .i64 x6, .int .i64 x7, .int .i64 x8, .int .i64 x9, .int .i64 x10][j]?) ∧ (∀ j, W.cell? ⟨wr.heap.size, j, none⟩ = #[.int .i64 yk, .string y1, .string y2, .string y3, .int .i64 y4, .int .i64 y5, .int .i64 y6, .int .i64 y7, .int .i64 y8, .int .i64 y9, .int .i64 y10][j]?)) := Lib.hid fun W hW => by
            rw [hI] at hW
            exact ⟨fun j => art_cell hW.look j, fun j => art_cell hW.with' j⟩
          have HNW : Hid (I (wr.alloc (.cells #[.int .i64 yk, .string y1, .string y2, .string y3, .int .i64 y4, .int .i64 y5, .int .i64 y6, .int .i64 y7, .int .i64 y8, .int .i64 y9, .int .i64 y10] 24))) := Lib.hid (by rw [hI]; exact HO4.out)
          have HIO : Hid (∀ W, I W → O3 w tb w.heap.size (w.heap.size + 1) qa G X Z ⟨rk, r1, r2, r3, r4, r5, r6, r7, r8, r9, r10⟩ ⟨qk, q1, q2, q3, q4, q5, q6, q7, q8, q9, q10⟩ ⟨ak, a1, a2, a3, a4, a5, a6, a7, a8, a9, a10⟩ ⟨xk, x1, x2, x3, x4, x5, x6, x7, x8, x9, x10⟩ W) := Lib.hid fun W hW => by
            rw [hI] at hW
            exact hW.toO3
          clear hI hc hsx hsy hcy HO4 HV HO3
          go_upto_region 15 with fail
          have hnew := HNW.out
          have hcs := HCE.out _ hnew
          clear z0 z1 z2 z3 z4 z5 z6 z7 z8 z9 z10
          go_region_held3 (fun W => (∀ j, W.cell? ⟨X, j, none⟩ = #[.int .i64 xk, .string x1, .string x2, .string x3, .int .i64 x4, .int .i64 x5, .int .i64 x6, .int .i64 x7, .int .i64 x8, .int .i64 x9, .int .i64 x10][j]?) ∧ (∀ j, W.cell? ⟨wr.heap.size, j, none⟩ = #[.int .i64 yk, .string y1, .string y2, .string y3, .int .i64 y4, .int .i64 y5, .int .i64 y6, .int .i64 y7, .int .i64 y8, .int .i64 y9, .int .i64 y10][j]?))
            (first | exact HCE.out _ (by assumption) | exact HCE.out _ (HDR.out _ (by assumption)))
            (first
              | (go_at_call 14; (with_reducible refine (HCP.out _ (by first | assumption | exact HDR.out _ (by assumption))).mono ?_); rintro e w' ⟨rfl, hinv⟩)
              | (go_at_call 15; (with_reducible refine (HRC.out _ (by first | assumption | exact HDR.out _ (by assumption))).mono ?_); rintro e w' ⟨rfl, hinv⟩))
          have HV2 := Lib.hid (HIO.out w' (by assumption))
          clear hnew hcs hinv HIO HNW HCE HDR HRC HCP
          go_wp2_with fail
          go_roundw
          case rel => exact ⟨j + 1, by first | rfl | go_num, by omega, HV2⟩
          case measure => simp [RowKit.intOf]; omega
        · obtain rfl : j = 3 := by omega
          have HW2 := Lib.hid HV.out.toO2.toO1
          clear HV HO3
          go_wp2_with fail
          go_roundw
          case rel => exact ⟨k + 1, by first | rfl | go_num, by omega, HW2⟩
          case measure => simp [RowKit.intOf]; omega
    · obtain rfl : k = 4 := by omega
      have HA : Hid (AnInv w tb w.heap.size (w.heap.size + 1) qa ⟨rk, r1, r2, r3, r4, r5, r6, r7, r8, r9, r10⟩ ⟨qk, q1, q2, q3, q4, q5, q6, q7, q8, q9, q10⟩ ⟨ak, a1, a2, a3, a4, a5, a6, a7, a8, a9, a10⟩ wr) := Lib.hid HW.out.toAnInv
      have hsa := HSA.out
      have hga := text_small hsa
      have HRT := Lib.hid (rtext_any ak a1 a2 a3 a4 a5 a6 a7 a8 a9 a10 (Nat.le_trans hsa.c (by decide)) (Nat.le_trans hsa.o (by decide)) (Nat.le_trans hsa.n (by decide)) wr (HL.out wr HA.out.old))
      have ua := art_cell HA.out.art
      simp only [Art.cells] at ua
      clear hsa HW HO1 HSA HSR HSQ
      generalize textA ⟨ak, a1, a2, a3, a4, a5, a6, a7, a8, a9, a10⟩ = ga at *
      go_wp2_with fail
      refine (HRT.out).mono ?_
      rintro e w8 ⟨rfl, hb8⟩
      have HA8 := Lib.hid (HA.out.later hb8)
      clear hb8 ua HA HRT
      have hsp := TextRow.new (w := w) (W := w8) spoilL 9 10 HA8.out.old rfl (fun x hx => by
        have := List.all_eq_true.1 (show (spoilL.all fun x => decide (x.size ≤ 10)) = true by decide) x hx
        simpa using this)
      have HC8 : Hid (CInv w tb (w8.alloc (.cells (cellsS spoilL).toArray 9))) := Lib.hid ⟨HA8.out.tape.below (below_alloc _ _), HL.out _ hsp.old, hsp.old, HA8.out.far.2.2, fun g hg => (HL.out w (Below.refl _ _)).lt g hg⟩
      have HSP : Hid (Calls Tryz.prog 16 #[.pointer (some ⟨tb, 0, none⟩), .string ga, .slice (some ⟨w8.heap.size, 0, none⟩) 9 9] (w8.alloc (.cells (cellsS spoilL).toArray 9)) (SpoiltPost w tb ga.size (w8.alloc (.cells (cellsS spoilL).toArray 9)))) := Lib.hid (Spoilt_any HC8.out ga hga w8.heap.size 9 9 HA8.out.tape.lt (by simp) (by omega) (by omega) fun i hi => by
        obtain ⟨y, h1, h2⟩ := hsp.row i hi
        exact ⟨y, h2, h1⟩)
      have hcells : (cellsS spoilL).toArray = #[.string ⟨#[]⟩, .string ⟨#[32]⟩, .string ⟨#[48]⟩, .string ⟨#[49]⟩, .string ⟨#[45]⟩, .string ⟨#[97, 108, 108]⟩, .string ⟨#[110, 111, 110, 101]⟩, .string ⟨#[46]⟩, .string ⟨#[120]⟩] := rfl
      rw [hcells] at HSP
      clear hsp hcells HC8
      go_wp2_with fail
      refine (HSP.out).mono ?_
      rintro e w9 ⟨sp, rfl, hz9, hc9, g9⟩
      have HC9 := Lib.hid hc9
      have ht9 := hc9.tape
      clear hc9 g9 HSP HA8
      go_wp2_with fail
      refine (words_any tb w9 HC9.out.tape).mono ?_
      rintro e w10 ⟨t2, rfl, hz2, t10, g10⟩
      have HB10 := Lib.hid (below_turn HC9.out.old g10 HC9.out.ht)
      have HT0 := Lib.hid (TextRow.new (w := w) (W := w10) [ga, sp, t2, s] 4 3000 HB10.out rfl (fun x hx => by
        simp only [List.mem_cons, List.mem_nil_iff, or_false] at hx
        rcases hx with rfl | rfl | rfl | rfl <;> omega))
      have hcells : (cellsS [ga, sp, t2, s]).toArray = #[.string ga, .string sp, .string t2, .string s] := rfl
      rw [hcells] at HT0
      clear hcells t10 g10 ht9 HC9 hz9 hz2 HB10
      go_wp2_with fail
      generalize w10.heap.size = Z at *
      go_loopw [112] (fun i wr => ∃ k : Nat, i = .int .i64 k ∧ k ≤ 4 ∧ Hid (TextRow w Z 4 3000 wr)) (fun i _ => 4 - (RowKit.intOf i).toNat)
      case atStart => exact ⟨0, rfl, by omega, HT0⟩
      case round =>
        obtain ⟨k, rfl, hk4, HW⟩ := hrel
        by_cases hlt : k < 4
        · obtain ⟨y, hy, hy1⟩ := HW.out.row k hlt
          have hk0 : (0 : Int) ≤ (k : Int) := by omega
          have hk1 : (k : Int) < 4 := by omega
          have hy6 : y.size ≤ 1000000 := by omega
          obtain ⟨r, hr⟩ : ∃ r, r = parseA y := ⟨_, rfl⟩
          have HP1 := Lib.hid (fun W hW => arParse_any y W (HL.out W hW) hy6)
          have HP2 := Lib.hid (fun W hW => rarParse_any y W (HL.out W hW) hy6)
          have HN1 := Lib.hid (fun W hW => arNumber_any y W (HL.out W hW) hy6)
          have HN2 := Lib.hid (fun W => rarNumber_any y W hy6)
          rw [← hr] at HP1 HP2
          generalize numI y = ny at *
          generalize (numT y).isSome = by' at *
          clear hr hy6 hy1 HT0
          have hnn : (ny != ny) = false := by simp
          have hbb : (by' != by') = false := by simp
          obtain ⟨z, qv, hz⟩ : ∃ (z : Art) (qv : Int), ∀ W e w', ParseP W r e w' → e = .returned (.tuple #[.agg z.cells, .int .i64 qv]) ∧ Below W.heap.size W w' := by
            cases r with
            | none => exact ⟨Art.none, 4, fun W e w' h => h⟩
            | some z => exact ⟨z, 0, fun W e w' h => h⟩
          have HZ := Lib.hid hz
          have q0 := fun W => art_same W z
          obtain ⟨xk, x1, x2, x3, x4, x5, x6, x7, x8, x9, x10⟩ := z
          simp only [Art.cells] at q0 HZ
          have hqq : (qv != qv) = false := by simp
          clear hz
          go_wp2_with fail
          refine (HP1.out _ HW.out.old).mono ?_
          intro e w11 he
          obtain ⟨rfl, hb11⟩ := HZ.out _ _ _ he
          have HW11 := Lib.hid (HW.out.later (hb11.alloc hb11.size (.cells #[.int .i64 xk, .string x1, .string x2, .string x3, .int .i64 x4, .int .i64 x5, .int .i64 x6, .int .i64 x7, .int .i64 x8, .int .i64 x9, .int .i64 x10] 24)))
          have HZ11 := Lib.hid (heap_alloc_new w11 (.cells #[.int .i64 xk, .string x1, .string x2, .string x3, .int .i64 x4, .int .i64 x5, .int .i64 x6, .int .i64 x7, .int .i64 x8, .int .i64 x9, .int .i64 x10] 24))
          clear hb11 he HW HP1 hy
          go_wp2_with fail
          refine (HP2.out _ HW11.out.old).mono ?_
          intro e w12 he
          obtain ⟨rfl, hb12⟩ := HZ.out _ _ _ he
          have HW12 := Lib.hid ((HW11.out.later hb12).later (below_alloc w12 (.cells #[.int .i64 xk, .string x1, .string x2, .string x3, .int .i64 x4, .int .i64 x5, .int .i64 x6, .int .i64 x7, .int .i64 x8, .int .i64 x9, .int .i64 x10] 24)))
          have HZ12 : Hid (ArtAt (w12.alloc (.cells #[.int .i64 xk, .string x1, .string x2, .string x3, .int .i64 x4, .int .i64 x5, .int .i64 x6, .int .i64 x7, .int .i64 x8, .int .i64 x9, .int .i64 x10] 24)) w11.heap.size ⟨xk, x1, x2, x3, x4, x5, x6, x7, x8, x9, x10⟩ ∧ ArtAt (w12.alloc (.cells #[.int .i64 xk, .string x1, .string x2, .string x3, .int .i64 x4, .int .i64 x5, .int .i64 x6, .int .i64 x7, .int .i64 x8, .int .i64 x9, .int .i64 x10] 24)) w12.heap.size ⟨xk, x1, x2, x3, x4, x5, x6, x7, x8, x9, x10⟩) := Lib.hid ⟨ArtAt.below (ArtAt.below HZ11.out hb12) (below_alloc _ _), heap_alloc_new w12 _⟩
          clear hb12 he HP2 HZ11 HW11 HZ
          generalize w11.heap.size = P at *
          go_wp2_with fail
          refine (HN1.out _ HW12.out.old).mono ?_
          rintro e w13 ⟨rfl, hb13⟩
          have HW13 := Lib.hid (HW12.out.later hb13)
          have HZ13 : Hid (ArtAt w13 P ⟨xk, x1, x2, x3, x4, x5, x6, x7, x8, x9, x10⟩ ∧ ArtAt w13 w12.heap.size ⟨xk, x1, x2, x3, x4, x5, x6, x7, x8, x9, x10⟩) := Lib.hid ⟨HZ12.out.1.below hb13, HZ12.out.2.below hb13⟩
          clear hb13 HW12 HZ12 HN1
          generalize w12.heap.size = Q at *
          have u1 := art_cell HZ13.out.1
          have u2 := art_cell HZ13.out.2
          simp only [Art.cells] at u1 u2
          go_wp2_with fail
          refine (HN2.out _).mono ?_
          rintro e w14 ⟨rfl, rfl⟩
          clear HN2
          go_wp2_with fail
          go_roundw
          case rel => exact ⟨k + 1, by first | rfl | go_num, by omega, HW13⟩
          case measure => simp [RowKit.intOf]; omega
        · obtain rfl : k = 4 := by omega
          have HB := Lib.hid HW.out.old
          have HT1 := Lib.hid (TextRow.new (w := w) (W := wr) numsL 8 20 HB.out rfl (fun x hx => by
            have := List.all_eq_true.1 (show (numsL.all fun x => decide (x.size ≤ 20)) = true by decide) x hx
            simpa using this))
          have hcells : (cellsS numsL).toArray = #[.string ⟨#[]⟩, .string ⟨#[48]⟩, .string ⟨#[48, 48]⟩, .string ⟨#[48, 49]⟩, .string ⟨#[57, 57, 57, 57, 57, 57, 57, 57, 57, 57, 57, 57, 57, 57, 57]⟩, .string ⟨#[49, 48, 48, 48, 48, 48, 48, 48, 48, 48, 48, 48, 48, 48, 48, 48]⟩, .string ⟨#[45, 49]⟩, .string ⟨#[55, 32]⟩] := rfl
          rw [hcells] at HT1
          clear hcells HW HB HT0
          go_wp2_with fail
          generalize wr.heap.size = Y at *
          go_loopw [157] (fun i wr => ∃ k : Nat, i = .int .i64 k ∧ k ≤ 8 ∧ Hid (TextRow w Y 8 20 wr)) (fun i _ => 8 - (RowKit.intOf i).toNat)
          case atStart => exact ⟨0, rfl, by omega, HT1⟩
          case round =>
            obtain ⟨k, rfl, hk8, HW⟩ := hrel
            by_cases hlt : k < 8
            · obtain ⟨y, hy, hy1⟩ := HW.out.row k hlt
              have hk0 : (0 : Int) ≤ (k : Int) := by omega
              have hk1 : (k : Int) < 8 := by omega
              have hy6 : y.size ≤ 1000000 := by omega
              have HN1 := Lib.hid (fun W hW => arNumber_any y W (HL.out W hW) hy6)
              have HN2 := Lib.hid (fun W => rarNumber_any y W hy6)
              generalize numI y = ny at *
              generalize (numT y).isSome = by' at *
              clear hy6 hy1 HT1
              have hnn : (ny != ny) = false := by simp
              have hbb : (by' != by') = false := by simp
              go_wp2_with fail
              refine (HN1.out _ HW.out.old).mono ?_
              rintro e w13 ⟨rfl, hb13⟩
              have HW13 := Lib.hid (HW.out.later hb13)
              clear hb13 HW HN1 hy
              go_wp2_with fail
              refine (HN2.out _).mono ?_
              rintro e w14 ⟨rfl, rfl⟩
              clear HN2
              go_wp2_with fail
              go_roundw
              case rel => ((repeat apply Exists.intro); exact ⟨⟨k + 1, by first | rfl | go_num, by omega, HW13⟩, rfl⟩)
              case measure => simp [RowKit.intOf]; omega
            · obtain rfl : k = 8 := by omega
              have HB := Lib.hid HW.out.old
              clear HW HT1
              go_wp2_with fail
              refine (HAW.out _ HB.out).mono ?_
              rintro e w15 ⟨rfl, hb15⟩
              have HB15 := Lib.hid (HB.out.trans (hb15.mono HB.out.size))
              clear hb15
              go_wp2_with fail
              go_ret
              exact ⟨rfl, HB15.out⟩

end Go.Proofs.YtdgckdmgplpobaaGreatDoor
