/- Contracts of package liquidity's ascend, fault and Make: for a band that is valid, and positions on days that ascend. -/
import Derived.Test.YthajkhonapjihabLqK
set_option linter.unusedSimpArgs false
set_option linter.unusedVariables false
namespace Go.Proofs.Ythajkhonapjihab
open Go.RowKit Go.Lib Go.Proofs

set_option maxRecDepth 100000 in
set_option maxHeartbeats 4000000 in
theorem lqascend_ok (l : List Int) (hin : ∀ i, i < l.length → 0 ≤ l.getD i 0 ∧ l.getD i 0 ≤ 36000) (hasc : ∀ i, i + 1 < l.length → l.getD i 0 < l.getD (i + 1) 0) (hlen : l.length ≤ 1000) (v : Value) (w : World) (n : Nat) (hn : n = l.length) (hv : RowG w v n 1 (cellsI l)) :
    Calls Try.prog 53 #[v] w fun e w' => e = .returned (.bool true) ∧ Below w.heap.size w w' := by
  obtain ⟨_, ao, cap, rfl, hcap, hc⟩ := hv
  have HN := Lib.hid hn
  have HC : Hid (0 < n → ∃ b o, ao = some ⟨b, o, none⟩ ∧ b < w.heap.size ∧ ∀ j, j < n → w.cell? ⟨b, o + j, none⟩ = some (.int .i64 (l.getD j 0))) := Lib.hid fun hp => by
    rcases hc with hc | ⟨b, o, h1, h2, h3⟩
    · omega
    · exact ⟨b, o, h1, h2, fun j hj => (h3 j (by omega)).trans (cellsI_get l j (by omega))⟩
  have HI := Lib.hid hin
  have HA := Lib.hid hasc
  rw [← hn] at hlen
  clear hc hin hasc hn
  go_enter Try.func53, Try.ntmps53
  go_wp2
  go_loopw [7] (fun i wr => ∃ k : Nat, i = .int .i64 k ∧ k ≤ n ∧ Hid (Below w.heap.size w wr)) (fun i _ => n - (RowKit.intOf i).toNat)
  case atStart => exact ⟨0, rfl, by omega, Lib.hid (Below.refl _ _)⟩
  case round =>
    obtain ⟨k, rfl, hkn, HB⟩ := hrel
    by_cases hlt : k < n
    · obtain ⟨b, o, rfl, hb, hcc⟩ := HC.out (by omega)
      have c0 := (HB.out.cell (p := ⟨b, o + k, none⟩) hb).trans (hcc k hlt)
      obtain ⟨d0, d1⟩ := HI.out k (by rw [← HN.out]; exact hlt)
      have hk0 : (0 : Int) ≤ (k : Int) := by omega
      have hk1 : (k : Int) < (n : Int) := by omega
      have HIN := Lib.hid (fun W => lqwithin_yes (n := l.getD k 0) W d0 d1)
      by_cases hkz : k = 0
      · subst hkz
        rw [Nat.add_zero] at c0
        generalize l.getD 0 0 = x at *
        clear hcc HC
        go_wp2_with (go_at_call 79; refine (HIN.out _).mono ?_; rintro e w' ⟨rfl, rfl⟩)
        go_roundw
        case rel => exact ⟨1, by first | rfl | go_num, by omega, HB⟩
        case measure => simp [RowKit.intOf]; omega
      · obtain ⟨j, rfl⟩ : ∃ j, k = j + 1 := ⟨k - 1, by omega⟩
        have c1 := (HB.out.cell (p := ⟨b, o + j, none⟩) hb).trans (hcc j (by omega))
        have ha := HA.out j (by rw [← HN.out]; exact hlt)
        generalize l.getD (j + 1) 0 = x at *
        generalize l.getD j 0 = y at *
        have hja : ((j + 1 : Nat) : Int) - 1 = (j : Int) := by omega
        have hpos : (0 : Int) < ((j + 1 : Nat) : Int) := by omega
        have hj0 : (0 : Int) ≤ (j : Int) := by omega
        have hj1 : (j : Int) < (n : Int) := by omega
        have hnx : ¬ x ≤ y := by omega
        clear hcc HC HA HI
        go_wp2_with (go_at_call 79; refine (HIN.out _).mono ?_; rintro e w' ⟨rfl, rfl⟩)
        go_roundw
        case rel => exact ⟨j + 2, by first | rfl | go_num, by omega, HB⟩
        case measure => simp [RowKit.intOf]; omega
    · obtain rfl : k = n := by omega
      clear HC
      go_wp2
      go_ret
      exact ⟨rfl, HB.out⟩

theorem posIn_days {l : List Pos} (h : PosIn l) : (∀ i, i < (daysP l).length → 0 ≤ (daysP l).getD i 0 ∧ (daysP l).getD i 0 ≤ 36000) ∧ (∀ i, i + 1 < (daysP l).length → (daysP l).getD i 0 < (daysP l).getD (i + 1) 0) := by
  have hg : ∀ i (hi : i < l.length), (daysP l).getD i 0 = l[i].day := fun i hi => by simp [daysP, hi]
  refine ⟨fun i hi => ?_, fun i hi => ?_⟩
  · rw [daysP_len] at hi
    rw [hg i hi]
    exact h.day _ (List.getElem_mem hi)
  · rw [daysP_len] at hi
    rw [hg i (by omega), hg (i + 1) hi]
    exact h.asc (i + 1) hi (by omega) (by omega)

set_option maxRecDepth 100000 in
set_option maxHeartbeats 2000000 in
theorem lqfault_ok {b : Bnd} (h : BndOk b) {l : List Pos} (hp : PosIn l) (v : Value) (w : World) (hv : ListAt posC 2 w v l) :
    Calls Try.prog 41 #[.agg b.cells.toArray, v] w fun e w' => e = .returned (.int .i64 0) ∧ Below w.heap.size w w' := by
  have HC := Lib.hid (fun W => lqCheck_ok h W)
  have HT := Lib.hid (fun W (hW : Below w.heap.size w W) => lqtotals_ok hp v W (hv.below hW))
  have HD := Lib.hid (fun W (hW : Below w.heap.size w W) => lqdaysP_ok l hp.len v W (hv.below hW))
  have HA := Lib.hid (fun u W (hu : RowG W u l.length 1 (cellsI (daysP l))) => lqascend_ok (daysP l) (posIn_days hp).1 (posIn_days hp).2 (by rw [daysP_len]; exact hp.len) u W l.length (daysP_len l).symm hu)
  obtain ⟨ao, cap, rfl, hcap, hc⟩ := hv.shape posF
  have hlen := hp.len
  unfold DaysPPost at HD
  obtain ⟨n, hn⟩ : ∃ n, n = l.length := ⟨_, rfl⟩
  rw [← hn] at HT HD HA hlen hcap ⊢
  have HX := Lib.hid (show BInv w w.heap.size b (w.alloc (.cells b.cells.toArray 48)) from ⟨heap_alloc_new w _, below_alloc w _⟩)
  clear h hp hv hc hn
  obtain ⟨lo, hi, lt, mr, mp⟩ := b
  simp only [Bnd.cells] at HC HX ⊢
  go_enter Try.func41, Try.ntmps41
  go_wp2_with fail
  with_reducible refine (HC.out _).mono ?_
  rintro e w1 ⟨rfl, b1⟩
  have HX1 := Lib.hid (HX.out.below b1)
  clear b1 HX
  go_wp2_with fail
  with_reducible refine (HT.out _ HX1.out.old).mono ?_
  rintro e w2 ⟨rfl, b2⟩
  have HX2 := Lib.hid (HX1.out.below b2)
  clear b2 HX1
  go_wp2_with fail
  with_reducible refine (HD.out _ HX2.out.old).mono ?_
  rintro e w3 ⟨u, rfl, ho, b3⟩
  have HX3 := Lib.hid (HX2.out.below b3)
  have HU := Lib.hid (HA.out u w3 (RowG.owns ho))
  clear b3 HX2 ho
  go_wp2_with fail
  with_reducible refine (HU.out).mono ?_
  rintro e w4 ⟨rfl, b4⟩
  have HX4 := Lib.hid (HX3.out.below b4)
  clear b4 HX3
  have hnl : ¬ (1000 : Int) < (n : Int) := by omega
  go_wp2
  go_ret
  exact ⟨rfl, HX4.out.old⟩

/-- A plan. -/
structure Pl where
  day : Int
  raise : Int
  place : Int
def plC (p : Pl) : List Value := [.int .i64 p.day, .int .i64 p.raise, .int .i64 p.place]
theorem plF : Fields plC 3 := ⟨fun _ => rfl, fun x u h => by simp [plC] at h; rcases h with rfl | rfl | rfl <;> rfl, by decide⟩

/-- The plan for a position, if one is needed. -/
def planOf (b : Bnd) (p : Pos) : List Pl := if 0 < decR b p.amt ∨ 0 < decP b p.amt then [⟨p.day, decR b p.amt, decP b p.amt⟩] else []
def plansM (b : Bnd) : List Pos → List Pl
  | [] => []
  | p :: l => planOf b p ++ plansM b l
theorem plansM_snoc (b : Bnd) (p : Pos) : ∀ l, plansM b (l ++ [p]) = plansM b l ++ planOf b p
  | [] => by simp [plansM]
  | q :: l => by simp only [List.cons_append, plansM, plansM_snoc b p l, List.append_assoc]
theorem plansM_len (b : Bnd) : ∀ l, (plansM b l).length ≤ l.length
  | [] => Nat.le_refl _
  | p :: l => by
    have := plansM_len b l
    have h1 : (planOf b p).length ≤ 1 := by unfold planOf; split <;> simp
    simp only [plansM, List.length_append, List.length_cons]
    omega

/-- What Make hands back: plans in new memory, or the first day on which nothing is enough. -/
def MakePost (b : Bnd) (l : List Pos) (w : World) (e : Ending) (w' : World) : Prop :=
  ((∀ p ∈ l, okB b p.amt = true) ∧ ∃ v, e = .returned (.tuple #[v, .int .i64 (-1), .int .i64 0]) ∧ w'.ownsRow w.heap.size 81 3 v (plansM b l).length (cellsL plC (plansM b l)) ∧ Below w.heap.size w w') ∨
  (∃ k, ∃ h : k < l.length, (∀ p ∈ l.take k, okB b p.amt = true) ∧ okB b l[k].amt = false ∧ e = .returned (.tuple #[.slice none 0 0, .int .i64 l[k].day, .int .i64 10]) ∧ Below w.heap.size w w')

theorem Try.infoPl : (Try.prog.info? 81).map (fun i => (i.zero, i.size, i.bytes)) = some (some (.agg #[.int .i64 0, .int .i64 0, .int .i64 0]), 3, 24) := by kernel_rfl

/-- Make on the way: the band lies in its box; plans are gathered. -/
structure MkI (w : World) (b : Bnd) (ps : List Pl) (v : Value) (W : World) : Prop where
  box : W.heap[w.heap.size]? = some (.cells b.cells.toArray 48 (0, 0))
  own : W.ownsRow (w.heap.size + 1) 81 3 v ps.length (cellsL plC ps)
  old : Below w.heap.size w W
theorem MkI.below {w : World} {b : Bnd} {ps : List Pl} {v : Value} {A B : World} (h : MkI w b ps v A) (hb : Below A.heap.size A B) : MkI w b ps v B :=
  ⟨obj_below h.box hb, ownsRow_below h.own hb, h.old.trans (hb.mono h.old.size)⟩

set_option maxRecDepth 100000 in
set_option maxHeartbeats 8000000 in
theorem lqMake_any {b : Bnd} (h : BndOk b) {l : List Pos} (hp : PosIn l) (v : Value) (w : World) (hv : ListAt posC 2 w v l) :
    Calls Try.prog 22 #[.agg b.cells.toArray, v] w (MakePost b l w) := by
  obtain ⟨i0, hi0, hz0, hz1, hz2⟩ := info_parts Try.infoPl
  have HF := Lib.hid (fun W (hW : Below w.heap.size w W) => lqfault_ok h hp v W (hv.below hW))
  have HD := Lib.hid (fun p (hpm : p ∈ l) W => lqDecide_any h p.amt (hp.amt p hpm).1 (hp.amt p hpm).2 W)
  have HNN := Lib.hid (fun a => raise_place h a)
  obtain ⟨ao, cap, rfl, hcap, hc⟩ := hv.shape posF
  have hlen := hp.len
  obtain ⟨n, hn⟩ : ∃ n, n = l.length := ⟨_, rfl⟩
  have HN := Lib.hid hn
  have HC := Lib.hid hc
  rw [← hn] at HF hlen hcap ⊢
  have HX := Lib.hid (show MkI w b [] (.slice none 0 0) (w.alloc (.cells b.cells.toArray 48)) from ⟨heap_alloc_new w _, World.ownsRow_nil _ _ _ _, below_alloc w _⟩)
  clear h hp hv hc hn
  obtain ⟨lo, hi, lt, mr, mp⟩ := b
  simp only [Bnd.cells] at HF HD HX ⊢
  go_enter Try.func22, Try.ntmps22
  go_wp2_with fail
  with_reducible refine (HF.out _ HX.out.old).mono ?_
  rintro e w1 ⟨rfl, b1⟩
  have HX1 := Lib.hid (HX.out.below b1)
  clear b1 HX HF
  go_wp2
  go_loopw [8, 22] (fun pv iv wr => ∃ k : Nat, iv = .int .i64 k ∧ k ≤ n ∧ (∀ p ∈ l.take k, okB ⟨lo, hi, lt, mr, mp⟩ p.amt = true) ∧ MkI w ⟨lo, hi, lt, mr, mp⟩ (plansM ⟨lo, hi, lt, mr, mp⟩ (l.take k)) pv wr) (fun _ iv _ => n - (RowKit.intOf iv).toNat)
  case atStart => exact ⟨0, rfl, by omega, by simp, HX1.out⟩
  case round =>
    obtain ⟨k, rfl, hkn, hok, hinv⟩ := hrel
    have HOK := Lib.hid hok
    have HI := Lib.hid hinv
    have hbx := hinv.box
    have v0 := obj_cell hbx 0
    have v1 := obj_cell hbx 1
    have v2 := obj_cell hbx 2
    have v3 := obj_cell hbx 3
    have v4 := obj_cell hbx 4
    simp [Bnd.cells] at v0 v1 v2 v3 v4
    clear hbx hok
    by_cases hlt : k < n
    · have hlx : k < l.length := by rw [← HN.out]; exact hlt
      obtain ⟨b, o, rfl, hb, hcc⟩ := HC.out (by omega)
      have hcell := fun j (hj : j < 2) => (hinv.old.cell (p := ⟨b, o + k * 2 + j, none⟩) hb).trans (hcc k hlx j hj)
      have hdec := HD.out l[k] (List.getElem_mem hlx)
      have htk : l.take (k + 1) = l.take k ++ [l[k]] := List.take_succ_eq_append_getElem hlx
      obtain ⟨x, hx⟩ : ∃ x, x = l[k] := ⟨_, rfl⟩
      rw [← hx] at hcell hdec htk
      have HX := Lib.hid hx
      have HTK := Lib.hid htk
      clear hx hcc htk
      obtain ⟨d, a⟩ := x
      have e0 := hcell 0 (by omega)
      have e1 := hcell 1 (by omega)
      simp [posC] at e0 e1
      have hba := obj_below HI.out.box (below_alloc wr (.cells #[.int .i64 d, .int .i64 a] 56))
      have z0 := obj_cell hba 0
      have z1 := obj_cell hba 1
      have z2 := obj_cell hba 2
      have z3 := obj_cell hba 3
      have z4 := obj_cell hba 4
      simp [Bnd.cells] at z0 z1 z2 z3 z4
      simp only at hdec
      have hk0 : (0 : Int) ≤ (k : Int) := by omega
      have hk1 : (k : Int) < (n : Int) := by omega
      have HDC := Lib.hid hdec
      have hl1 := plansM_len ⟨lo, hi, lt, mr, mp⟩ (l.take k)
      have hl2 : (l.take k).length = k := by simp; omega
      have hl3 : (plansM ⟨lo, hi, lt, mr, mp⟩ (l.take k)).length ≤ 1000 := by omega
      have hR0 : 0 ≤ decR ⟨lo, hi, lt, mr, mp⟩ a ∧ 0 ≤ decP ⟨lo, hi, lt, mr, mp⟩ a := by
        obtain ⟨r0, p0, _⟩ := HNN.out a
        unfold decR decP
        constructor <;> split <;> omega
      have HPL := Lib.hid (show planOf ⟨lo, hi, lt, mr, mp⟩ ⟨d, a⟩ = (if 0 < decR ⟨lo, hi, lt, mr, mp⟩ a ∨ 0 < decP ⟨lo, hi, lt, mr, mp⟩ a then [⟨d, decR ⟨lo, hi, lt, mr, mp⟩ a, decP ⟨lo, hi, lt, mr, mp⟩ a⟩] else []) from rfl)
      have HOB : Hid (okB ⟨lo, hi, lt, mr, mp⟩ a = okB ⟨lo, hi, lt, mr, mp⟩ a) := Lib.hid rfl
      have HK : Hid (∃ q, q = okB ⟨lo, hi, lt, mr, mp⟩ a) := Lib.hid ⟨_, rfl⟩
      obtain ⟨q, hq⟩ := HK.out
      have HQ := Lib.hid hq
      rw [← hq] at HDC
      generalize decR ⟨lo, hi, lt, mr, mp⟩ a = R at *
      generalize decP ⟨lo, hi, lt, mr, mp⟩ a = P at *
      obtain ⟨hR, hP⟩ := hR0
      clear hcell hinv hl1 hl2 hq HK HOB hdec
      go_wp2_with fail
      with_reducible refine (HDC.out _).mono ?_
      rintro e w2 ⟨rfl, b2⟩
      have HI2 := Lib.hid ((HI.out.below (below_alloc wr (.cells #[.int .i64 d, .int .i64 a] 56))).below b2)
      have h2 := obj_below (heap_alloc_new wr (.cells #[.int .i64 d, .int .i64 a] 56)) b2
      have u0 := obj_cell h2 0
      have u1 := obj_cell h2 1
      simp at u0 u1
      have hown := HI2.out.own
      have hsz := obj_lt HI2.out.box
      clear b2 h2 HDC v0 v1 v2 v3 v4 hba z0 z1 z2 z3 z4
      cases q with
      | false =>
        have hfin : ∀ W, Below w.heap.size w W → MakePost ⟨lo, hi, lt, mr, mp⟩ l w (.returned (.tuple #[.slice none 0 0, .int .i64 d, .int .i64 10])) W := fun W hW => Or.inr ⟨k, hlx, HOK.out, by rw [← HX.out]; exact HQ.out.symm, by rw [← HX.out], hW⟩
        have HFIN := Lib.hid hfin
        clear hfin hown
        go_wp2
        go_quiet (fail)
        go_wp2
        go_ret3
        exact HFIN.out _ (below_drewN HI2.out.old _)
      | true =>
        have hnext : Hid (∀ p ∈ l.take (k + 1), okB ⟨lo, hi, lt, mr, mp⟩ p.amt = true) := Lib.hid fun p hp => by
          rw [HTK.out] at hp
          rcases List.mem_append.1 hp with hp | hp
          · exact HOK.out p hp
          · rw [List.mem_singleton] at hp; rw [hp]; exact HQ.out.symm
        have hpl : Hid (plansM ⟨lo, hi, lt, mr, mp⟩ (l.take (k + 1)) = plansM ⟨lo, hi, lt, mr, mp⟩ (l.take k) ++ planOf ⟨lo, hi, lt, mr, mp⟩ ⟨d, a⟩) := Lib.hid (by rw [HTK.out, plansM_snoc])
        by_cases hgo : 0 < R ∨ 0 < P
        · have hpn : Hid (planOf ⟨lo, hi, lt, mr, mp⟩ ⟨d, a⟩ = [⟨d, R, P⟩]) := Lib.hid (by rw [HPL.out, if_pos hgo])
          have APP := fun (W : World) => W
          by_cases hr : 0 < R
          all_goals
            (try have hr2 : 0 < P := by omega)
            (try have hr3 : ¬ 0 < R := hr)
            go_wp2_with (at_builtin; refine wpList_append_own _ rfl _ _ 52 rfl (w.heap.size + 1) 81 i0 (.agg #[.int .i64 0, .int .i64 0, .int .i64 0]) 3 24 Try.underlying52 hi0 hz0 hz1 hz2 rfl (by decide) _ _ _ rfl (hown.alloc _) ⟨w2.heap.size, 0, none⟩ 1 1 (plC ⟨d, R, P⟩) rfl rfl (new_cells _ _ _ _ rfl) (plF.one _) (by unfold maxLen; omega) (by omega) (by simp; omega) ?_; intro v' w4 hown4 hgr4 _)
            go_roundw
            case rel =>
              refine ⟨k + 1, by first | rfl | go_num, by omega, hnext.out, ?_, ?_, ?_⟩
              · exact (hgr4.block _ (by simp; omega) (fun e => by have := ownBlock_le hown _ e.symm; omega)).trans (obj_below HI2.out.box (below_alloc w2 _))
              · rw [hpl.out, hpn.out]
                have h5 := cellsL_snoc plC (plansM ⟨lo, hi, lt, mr, mp⟩ (l.take k)) ⟨d, R, P⟩
                rw [h5] at hown4
                simpa using hown4
              · exact (HI2.out.old.alloc HI2.out.old.size _).grown hgr4 (by have := HI2.out.old.size; simp; omega) fun r hr => by have := ownBlock_le hown r hr; omega
            case measure => simp [RowKit.intOf]; omega
        · have hpn : Hid (planOf ⟨lo, hi, lt, mr, mp⟩ ⟨d, a⟩ = []) := Lib.hid (by rw [HPL.out, if_neg hgo])
          have hr0 : ¬ 0 < R := by omega
          have hp0 : ¬ 0 < P := by omega
          clear hown
          go_wp2
          go_roundw
          case rel => exact ⟨k + 1, by first | rfl | go_num, by omega, hnext.out, by rw [hpl.out, hpn.out, List.append_nil]; exact HI2.out⟩
          case measure => simp [RowKit.intOf]; omega
    · obtain rfl : k = n := by omega
      have hall : l.take k = l := by rw [HN.out]; exact List.take_length
      rw [hall] at HOK HI
      have hfin : MakePost ⟨lo, hi, lt, mr, mp⟩ l w (.returned (.tuple #[u8, .int .i64 (-1), .int .i64 0])) wr := Or.inl ⟨HOK.out, _, rfl, ownsRow_mono HI.out.own (by omega), HI.out.old⟩
      clear HC hinv v0 v1 v2 v3 v4
      go_wp2
      go_ret3
      exact hfin

end Go.Proofs.Ythajkhonapjihab
