/- The walk of MoneyParts: the parts that money.Parts returns have all that the statement asks of them; for every tape. -/
import Derived.Test.YtbndcjbnpgdpjaaAwake
import Derived.Test.YtbndcjbnpgdpjaaTape
import Derived.Test.YtbndcjbnpgdpjaaPartsN
namespace Go.Proofs.Ytbndcjbnpgdpjaa
open Go.RowKit Go.Sort Go.Shelf Go.Lib Go.Proofs

theorem owns_shape {w : World} {base : Nat} {e : TypeId} {size : Nat} {v : Value} {n : Nat} {xs : List Value} (h : w.ownsRow base e size v n xs) (hn : 0 < n) : ∃ g cap, v = .slice (some ⟨g, 0, none⟩) n cap ∧ base ≤ g ∧ n ≤ cap := by
  rcases h.2 with ⟨_, h0⟩ | ⟨g, cap, cur, hv, hg, hh, hnc, _⟩
  · omega
  · exact ⟨g, cap, hv, hg, hnc⟩

theorem cellsI_snoc (l : List Int) (x : Int) : cellsI l ++ [.int .i64 x] = cellsI (l ++ [x]) := by simp [cellsI]

theorem ownBlock_le {w : World} {base : Nat} {e : TypeId} {size : Nat} {v : Value} {n : Nat} {xs : List Value} (h : w.ownsRow base e size v n xs) (r : Nat) (hr : v.ownBlock = some r) : base ≤ r := (h.lt r hr).1

theorem ownBlock_ne {w : World} {base : Nat} {e : TypeId} {size : Nat} {v : Value} {n : Nat} {xs : List Value} (h : w.ownsRow base e size v n xs) (r : Nat) (hr : r < base) : v.ownBlock = none ∨ v.ownBlock ≠ some r :=
  Or.inr fun he => by have := ownBlock_le h r he; omega

/-- One value in a new block: what an append of one element asks. -/
theorem one_new (w : World) (x : Value) (T : TypeId) (b : Nat) (hb : b = w.heap.size) : ∀ j u, [x][j]? = some u → (w.alloc (.cells #[x] T)).cell? ((⟨b, 0, none⟩ : Addr).add j) = some u := by
  subst hb
  intro j u hj
  match j, hj with
  | 0, hj => simp at hj; subst hj; simp [Addr.add]

theorem one_int (k : IntKind) (x : Int) : ∀ u ∈ [Value.int k x], u.oneCell' = true := by
  intro u hu; simp at hu; subst hu; rfl

/-- The weights that have been drawn: l, in the slice v of the call's own; the tape stands; nothing older has turned. -/
structure WInv (w : World) (tb : Nat) (l : List Int) (v : Value) (wr : World) : Prop where
  bd : ∀ x ∈ l, 0 ≤ x ∧ x ≤ 1000000
  own : wr.ownsRow (tb + 1) 3 1 v l.length (cellsI l)
  tape : TapeAt wr tb
  old : Below tb w wr

theorem WInv.snoc {w wr : World} {tb : Nat} {l : List Int} {v : Value} (h : WInv w tb l v wr) {x : Int} (hx : 0 ≤ x ∧ x ≤ 1000000) {v' : Value} {w' : World} (ho : w'.ownsRow (tb + 1) 3 1 v' (l.length + 1) (cellsI l ++ [.int .i64 x])) {wa : World} (hb : Below wr.heap.size wr wa) (hg : wa.grownBy w' v.ownBlock) :
    WInv w tb (l ++ [x]) v' w' := by
  have hsz := h.tape.lt
  refine ⟨fun y hy => ?_, by rw [cellsI_snoc] at ho; simpa using ho, (h.tape.below hb).grown hg fun r hr => by have := ownBlock_le h.own r hr; omega, (h.old.trans (hb.mono (by omega))).grown hg (by have := hb.size; omega) fun r hr => by have := ownBlock_le h.own r hr; omega⟩
  rcases List.mem_append.1 hy with hy | hy
  · exact h.bd y hy
  · simp at hy; subst hy; exact hx

theorem WInv.grown {w wr w' : World} {tb : Nat} {l : List Int} {v : Value} (h : WInv w tb l v wr) (ht : TapeAt w' tb) (hg : wr.grownBy w' (some tb)) : WInv w tb l v w' :=
  ⟨h.bd, h.own.kept hg (ownBlock_ne h.own tb (by omega)), ht, h.old.grown hg (by have := h.tape.lt; omega) (by simp)⟩

theorem WInv.alloc {w wr : World} {tb : Nat} {l : List Int} {v : Value} (h : WInv w tb l v wr) (o : Obj) : WInv w tb l v (wr.alloc o) :=
  ⟨h.bd, h.own.alloc o, h.tape.below ((Below.refl _ _).alloc (Nat.le_refl _) _), h.old.alloc (by have := h.tape.lt; omega) o⟩

set_option maxRecDepth 100000 in
set_option maxHeartbeats 8000000 in
theorem mparts_any (v : Value) (n : Nat) (w : World) (hi : IntsAt w v n w.heap.size) (hn : n ≤ 9223372036854775807) :
    Calls Try.prog 4 #[v] w fun e w' => e = .returned (.bool true) ∧ Below w.heap.size w w' := by
  obtain ⟨i0, hi0, hz0, hz1, hz2⟩ := info_parts Try.infoInt
  have HNEW := Lib.hid (New_any v n w hi hn)
  clear hi hn
  go_enter Try.func4, Try.ntmps4
  go_wp2_with fail
  refine (HNEW.out).mono ?_
  rintro e w1 ⟨rfl, t1, b1⟩
  obtain ⟨tb, htb⟩ : ∃ tb, tb = w.heap.size := ⟨_, rfl⟩
  rw [← htb] at t1 b1 ⊢
  have HTB := Lib.hid htb
  clear htb
  go_wp2_with fail
  refine (N_any tb 100 _ t1 (by omega) (by omega)).mono ?_
  rintro e w2 ⟨r1, rfl, r10, r11, t2, g2⟩
  go_wp2_with fail
  refine (N_any tb 1000000 _ t2 (by omega) (by omega)).mono ?_
  rintro e w3 ⟨r2, rfl, r20, r21, t3, g3⟩
  go_wp2_with fail
  refine (N_any tb 100 _ t3 (by omega) (by omega)).mono ?_
  rintro e w4 ⟨r3, rfl, r30, r31, t4, g4⟩
  go_wp2_with fail
  refine (Pick_new tb 4 [r1, r2, 1000000000000, 1000000000000 - r3] _ _ _ rfl t4 (by simp) (by simp) 4 rfl).mono ?_
  rintro e w5 ⟨T, rfl, hT, t5, g5⟩
  have hT' : 0 ≤ T ∧ T ≤ 1000000000000 := by
    simp only [List.mem_cons, List.not_mem_nil, or_false] at hT
    omega
  have hsz1 : tb < w1.heap.size := t1.lt
  have b5 : Below tb w w5 := ((((b1.grown g2 (by omega) (by simp)).grown g3 (by have := g2.size; omega) (by simp)).grown g4 (by have := g2.size; have := g3.size; omega) (by simp)).alloc (by have := t4.lt; omega) _).grown g5 (by have := t4.lt; simp; omega) (by simp)
  clear t1 b1 t2 g2 t3 g3 t4 g4 g5 hT hsz1 r10 r11 r20 r21 r30 r31
  clear HNEW
  obtain ⟨hT0, hT1⟩ := hT'
  go_wp2_with fail
  refine (N_any tb 8 _ t5 (by omega) (by omega)).mono ?_
  rintro e w6 ⟨r6, rfl, r60, r61, t6, g6⟩
  have b6 := b5.grown g6 (by have := t5.lt; omega) (by simp)
  clear t5 b5 g6
  obtain ⟨i6, rfl⟩ : ∃ i : Nat, r6 = i := ⟨r6.toNat, by omega⟩
  go_wp2_with fail
  have w0 : WInv w tb [] (.slice none 0 0) w6 := ⟨by simp, World.ownsRow_nil _ _ _ _, t6, b6⟩
  have hi6 : i6 ≤ 7 := by omega
  clear t6 b6 r60 r61
  go_loopw [5, 7] (fun wv iv wr => ∃ (l : List Int) (i : Nat), iv = .int .i64 i ∧ l.length + i ≤ 7 ∧ WInv w tb l wv wr) (fun _ iv _ => (intOf iv).toNat)
  case atStart => exact ⟨[], i6, rfl, by simpa using hi6, w0⟩
  case round =>
    clear w0 hi6
    obtain ⟨l, i, rfl, hli, hinv⟩ := hrel
    by_cases hpos : 0 < i
    · go_wp2_with fail
      refine (N_any tb 10 _ hinv.tape (by omega) (by omega)).mono ?_
      rintro e w1 ⟨s1, rfl, s10, s11, t1, g1⟩
      have h1 := hinv.grown t1 g1
      clear hinv t1 g1
      go_wp2_with fail
      refine (N_any tb 1000001 _ h1.tape (by omega) (by omega)).mono ?_
      rintro e w2 ⟨s2, rfl, s20, s21, t2, g2⟩
      have h2 := h1.grown t2 g2
      clear h1 t2 g2
      go_wp2_with fail
      refine (Pick_new tb 4 [0, 1, s1, s2] _ _ _ rfl h2.tape (by simp) (by simp) 4 rfl).mono ?_
      rintro e w3 ⟨x, rfl, hx, t3, g3⟩
      have hx' : 0 ≤ x ∧ x ≤ 1000000 := by
        simp only [List.mem_cons, List.not_mem_nil, or_false] at hx
        omega
      have h3 := (h2.alloc _).grown t3 g3
      clear h2 t3 g3 hx s10 s11 s20 s21
      have hown := h3.own
      have hlt := h3.tape.lt
      have hinv3 : Hid (WInv w tb l u5 w3) := h3
      clear h3
      go_wp2_with (at_builtin; refine wpList_append_own _ rfl _ _ 22 rfl (tb + 1) 3 i0 (.int .i64 0) 1 8 Try.underlying22 hi0 hz0 hz1 hz2 rfl (by decide) _ _ _ rfl (hown.alloc _) ⟨w3.heap.size, 0, none⟩ 1 1 [.int .i64 x] rfl rfl (one_new _ _ _ _ rfl) (one_int _ _) (by unfold maxLen; omega) (by omega) (by simp; omega) ?_; intro v' w4 hown4 hgr4 _)
      go_roundw
      case rel => exact ⟨l ++ [x], i - 1, by go_num, by simp; omega, hinv3.out.snoc hx' hown4 ((Below.refl _ _).alloc (Nat.le_refl _) _) hgr4⟩
      case measure => simp [intOf]; omega
    · obtain rfl : i = 0 := by omega
      have hown := hinv.own
      have hlt := hinv.tape.lt
      have hinv3 : Hid (WInv w tb l u5 wr) := hinv
      clear hinv
      go_wp2_with (at_builtin; refine wpList_append_own _ rfl _ _ 22 rfl (tb + 1) 3 i0 (.int .i64 0) 1 8 Try.underlying22 hi0 hz0 hz1 hz2 rfl (by decide) _ _ _ rfl (hown.alloc _) ⟨wr.heap.size, 0, none⟩ 1 1 [.int .i64 1] rfl rfl (one_new _ _ _ _ rfl) (one_int _ _) (by unfold maxLen; omega) (by omega) (by simp; omega) ?_; intro v' w4 hown4 hgr4 _; obtain ⟨g, cap, rfl, hg, hcap⟩ := owns_shape hown4 (by omega))
      have h4 := hinv3.out.snoc (x := 1) ⟨by omega, by omega⟩ hown4 ((Below.refl _ _).alloc (Nat.le_refl _) _) hgr4
      have hlast : (l ++ [1]).getD l.length 0 = 1 := by simp [List.getD]
      obtain ⟨m, hm⟩ : ∃ m, m = l.length := ⟨_, rfl⟩
      obtain ⟨ws, hws⟩ : ∃ ws, ws = l ++ [1] := ⟨_, rfl⟩
      have hwl : ws.length = m + 1 := by rw [hws, hm]; simp
      rw [← hws] at h4 hlast
      rw [← hm] at hlast hown4 hcap h4 ⊢
      have hm7 : m ≤ 7 := by omega
      have hcells : ∀ i, i < ws.length → w4.cell? ⟨g, i, none⟩ = some (.int .i64 (ws.getD i 0)) := fun i hi => by
        have ho := h4.own
        rw [hwl] at ho
        rw [ho.cellAt i (by rw [Nat.mul_one]; omega), cellsI_get _ i hi]
      have hglt : g < w4.heap.size := (hown4.lt g rfl).2
      have hsum : sumI ws = sumI (ws.take m) + 1 := by
        have e := sumI_take_succ ws m (by omega)
        rw [hlast, List.take_of_length_le (by omega)] at e
        exact e
      obtain ⟨S, hS⟩ : ∃ S, S = sumI ws := ⟨_, rfl⟩
      have hbd := h4.bd
      have hpre : ∀ k, 0 ≤ sumI (ws.take k) ∧ sumI (ws.take k) ≤ 20000000 := fun k => by
        have e1 := sumI_nonneg (l := ws.take k) fun x hx => (hbd x (List.mem_of_mem_take hx)).1
        have e2 := sumI_take_le (l := ws) (fun x hx => (hbd x hx).1) k
        have e3 := sumI_le (l := ws) (c := 1000000) fun x hx => (hbd x hx).2
        omega
      have hgd : ∀ i, i < ws.length → 0 ≤ ws.getD i 0 ∧ ws.getD i 0 ≤ 1000000 := fun i hi => by
        rw [getD_eq hi]; exact hbd _ (List.getElem_mem hi)
      have hS0 : 0 < S := by have := (hpre m).1; omega
      have hS1 : S ≤ 20000001 := by have := (hpre m).2; omega
      have HWL := Lib.hid hwl
      have HCELLS := Lib.hid hcells
      have HSUM := Lib.hid hsum
      have HS := Lib.hid hS
      have HBD := Lib.hid hbd
      have HPRE := Lib.hid hpre
      have HGD := Lib.hid hgd
      have H4 : Hid (WInv w tb ws (.slice (some ⟨g, 0, none⟩) (m + 1) cap) w4) := h4
      clear hinv3 hgr4 hown hown4 hlast hm hws hwl hcells hsum hS hbd hpre hgd h4 hli hpos hlt hcap hg
      go_loop [6, 54] (fun s c => ∃ k : Nat, k ≤ m ∧ c = .int .i64 k ∧ s = .int .i64 (1 + sumI (ws.take k))) (fun _ c => m - (intOf c).toNat)
      case atStart => exact ⟨0, Nat.zero_le _, rfl, rfl⟩
      case round =>
        obtain ⟨k, hk, rfl, rfl⟩ := hrel
        by_cases hlt : k < m
        · obtain ⟨x, hx⟩ : ∃ x, x = ws.getD k 0 := ⟨_, rfl⟩
          have hcell := HCELLS.out k (by have := HWL.out; omega)
          obtain ⟨hx0, hx1⟩ := HGD.out k (by have := HWL.out; omega)
          rw [← hx] at hcell hx0 hx1
          obtain ⟨hs0, hs1⟩ := HPRE.out k
          have HX := Lib.hid hx
          clear hx
          go_wp2
          go_round
          case rel =>
            refine ⟨k + 1, by omega, by go_num, ?_⟩
            rw [sumI_take_succ _ k (by have := HWL.out; omega), ← HX.out]
            go_num
          case measure => simp [intOf]; omega
        · obtain rfl : k = m := by omega
          have hfull : 1 + sumI (ws.take k) = S := by have := HSUM.out; have := HS.out; omega
          rw [hfull]
          clear hfull
          go_wp2_with fail
          have hcon := Parts_ok T S ws (by have := HWL.out; omega) (by have := HWL.out; omega) g 0 cap w4 (inB_true.2 ⟨hT0, hT1⟩) HBD.out HS.out.symm hS0 hglt (fun i hi => by rw [Nat.zero_add]; exact HCELLS.out i hi)
          rw [HWL.out] at hcon
          refine hcon.mono ?_
          rintro e w5 ⟨P, rfl, hown5, hb5⟩
          have hne : (((k : Int) + 1) != ((k : Int) + 1)) = false := bne_self_eq_false _
          clear hcon
          go_wp2_with fail
          obtain ⟨ps, hps⟩ : ∃ ps, ps = partsI T S ws := ⟨_, rfl⟩
          rw [← hps] at hown5
          have hpl : ps.length = k + 1 := by rw [hps, parts_length]; exact HWL.out
          have hpc : ∀ i, i < k + 1 → w5.cell? ⟨P, i, none⟩ = some (.int .i64 (ps.getD i 0)) := fun i hi => by rw [hown5.cellAt i (by omega), cellsI_get _ i (by omega)]
          have hgc : ∀ i, i < k + 1 → w5.cell? ⟨g, i, none⟩ = some (.int .i64 (ws.getD i 0)) := fun i hi => by rw [hb5.cell (by exact hglt)]; exact HCELLS.out i (by rw [HWL.out]; exact hi)
          have hpsum : sumI ps = T := by rw [hps]; exact parts_sum (by rw [HWL.out]; omega) hS0 HS.out.symm
          have hpn : ∀ x ∈ ps, 0 ≤ x := fun x hx => by
            obtain ⟨i, hi, rfl⟩ := List.mem_iff_getElem.1 hx
            rw [← getD_eq hi, hps]
            have h1 := (parts_bounds (T := T) (S := S) (ws := ws) i (by rw [HWL.out]; omega)).1
            have h2 : 0 ≤ T * ws.getD i 0 / S := Int.ediv_nonneg (Int.mul_nonneg hT0 (HGD.out i (by rw [HWL.out]; omega)).1) (by omega)
            omega
          have hppre : ∀ i, 0 ≤ sumI (ps.take i) ∧ sumI (ps.take i) ≤ T := fun i => by
            have h1 := sumI_nonneg (l := ps.take i) fun x hx => hpn x (List.mem_of_mem_take hx)
            have h2 := sumI_take_le hpn i
            omega
          have hold : Below tb w w5 := H4.out.old.trans (hb5.mono (by have := H4.out.tape.lt; omega))
          have HPS := Lib.hid hps
          have HPL := Lib.hid hpl
          have HPC := Lib.hid hpc
          have HGC := Lib.hid hgc
          have HPSUM := Lib.hid hpsum
          have HPN := Lib.hid hpn
          have HPPRE := Lib.hid hppre
          have HOLD := Lib.hid hold
          clear hps hpl hpc hgc hpsum hpn hppre hold hown5 hb5
          go_loopw [12, 79] (fun s c wr => ∃ i q : Nat, i ≤ k + 1 ∧ c = .int .i64 i ∧ s = .int .i64 (sumI (ps.take i)) ∧ wr = w5.drewN q) (fun _ c _ => k + 1 - (intOf c).toNat)
          case atStart => exact ⟨0, 0, Nat.zero_le _, rfl, rfl, rfl⟩
          case round =>
            obtain ⟨i, q, hi, rfl, rfl, rfl⟩ := hrel
            by_cases hlt : i < k + 1
            · obtain ⟨x, hx⟩ : ∃ x, x = ps.getD i 0 := ⟨_, rfl⟩
              obtain ⟨y, hy⟩ : ∃ y, y = ws.getD i 0 := ⟨_, rfl⟩
              have hcx := HPC.out i hlt
              have hcy := HGC.out i hlt
              have hiw : i < ws.length := by rw [HWL.out]; exact hlt
              have hpb := parts_bounds (T := T) (S := S) (ws := ws) i hiw
              have hpe := parts_exact (T := T) hS0 HS.out.symm i hiw
              rw [← HPS.out, ← hx, ← hy] at hpb hpe
              rw [← hx] at hcx
              rw [← hy] at hcy
              obtain ⟨hy0, hy1⟩ := HGD.out i hiw
              rw [← hy] at hy0 hy1
              have hp0 : 0 ≤ T * y := Int.mul_nonneg hT0 hy0
              have hp1 : T * y ≤ 1000000000000 * 1000000 := Int.mul_le_mul hT1 hy1 hy0 (by omega)
              have hq0 : 0 ≤ T * y / S := Int.ediv_nonneg hp0 (by omega)
              have hq1 : T * y / S ≤ T * y := Int.ediv_le_self _ hp0
              obtain ⟨hl0, hl1⟩ := HPPRE.out i
              obtain ⟨hb1, hb2⟩ := hpb
              have hzero : y = 0 → x = 0 := fun e => by
                have h1 := hpe (by rw [e]; simp)
                rw [e] at h1; simpa using h1
              have hS1' : 1 ≤ S := by omega
              have hsx : sumI (ps.take i) + x = sumI (ps.take (i + 1)) := by rw [sumI_take_succ _ i (by rw [HPL.out]; exact hlt), ← hx]
              have HX := Lib.hid hx
              have HY := Lib.hid hy
              have HSX := Lib.hid hsx
              have hcase : ((y == 0) = true ∧ (x != 0) = false ∧ (T * y % S == 0) = true ∧ (x != T * y / S) = false) ∨ ((y == 0) = false ∧ (T * y % S == 0) = true ∧ (x != T * y / S) = false) ∨ ((y == 0) = false ∧ (T * y % S == 0) = false) := by
                by_cases e : y = 0
                · refine Or.inl ⟨by rw [beq_iff_eq]; exact e, ?_, ?_, ?_⟩
                  · rw [hzero e]; rfl
                  · rw [e]; simp
                  · rw [hpe (by rw [e]; simp)]; exact bne_self_eq_false _
                · by_cases e2 : T * y % S = 0
                  · exact Or.inr (Or.inl ⟨by rw [beq_eq_false_iff_ne]; exact e, by rw [beq_iff_eq]; exact e2, by rw [hpe e2]; exact bne_self_eq_false _⟩)
                  · exact Or.inr (Or.inr ⟨by rw [beq_eq_false_iff_ne]; exact e, by rw [beq_eq_false_iff_ne]; exact e2⟩)
              clear hx hy hsx hpe hzero
              have hi1 : (i : Int) < (k : Int) + 1 := by omega
              have hi2 : decide ((i : Int) < (k : Int) + 1) = true := decide_eq_true hi1
              have hd1 : decide (x < T * y / S) = false := decide_eq_false (by omega)
              have hd2 : decide (T * y / S + 1 < x) = false := decide_eq_false (by omega)
              rcases hcase with ⟨c1, c2, c3, c4⟩ | ⟨c1, c2, c3⟩ | ⟨c1, c2⟩
              all_goals
                go_wp2
                go_loopw [146] (fun c wr => ∃ j p : Nat, j ≤ k + 1 ∧ c = .int .i64 j ∧ wr = w5.drewN p) (fun c _ => k + 1 - (intOf c).toNat)
                case atStart => exact ⟨0, q, Nat.zero_le _, rfl, rfl⟩
                case round =>
                  obtain ⟨j, p, hj, rfl, rfl⟩ := hrel
                  by_cases hltj : j < k + 1
                  · obtain ⟨x', hx'⟩ : ∃ x, x = ps.getD j 0 := ⟨_, rfl⟩
                    obtain ⟨y', hy'⟩ : ∃ y, y = ws.getD j 0 := ⟨_, rfl⟩
                    have hcx' := HPC.out j hltj
                    have hcy' := HGC.out j hltj
                    have hpm := parts_mono (T := T) hT0 hS0 (fun z hz => (HBD.out z hz).1) HS.out.symm i j hiw (by rw [HWL.out]; exact hltj)
                    rw [← HPS.out, ← HX.out, ← hx', ← HY.out, ← hy'] at hpm
                    rw [← hx'] at hcx'
                    rw [← hy'] at hcy'
                    have hi0 : (0 : Int) ≤ (i : Int) := by omega
                    have hj0 : (0 : Int) ≤ (j : Int) := by omega
                    have hj1 : (j : Int) < (k : Int) + 1 := by omega
                    clear hx' hy'
                    by_cases hyy : y' < y
                    · have hle := hpm hyy
                      have hg1 : decide (y' < y) = true := decide_eq_true hyy
                      have hg2 : decide (x < x') = false := decide_eq_false (by omega)
                      clear hpm
                      go_wp2
                      go_quiet (fail)
                      go_wp2
                      go_roundw
                      case rel => exact ⟨j + 1, _, by omega, by go_num, rfl⟩
                      case measure => simp [intOf]; omega
                    · have hg1 : decide (y' < y) = false := decide_eq_false hyy
                      clear hpm
                      go_wp2
                      go_quiet (fail)
                      go_wp2
                      go_roundw
                      case rel => exact ⟨j + 1, _, by omega, by go_num, rfl⟩
                      case measure => simp [intOf]; omega
                  · go_wp2
                    go_roundw
                    case rel => exact ⟨i + 1, p, by omega, by go_num, by rw [← HSX.out], rfl⟩
                    case measure => simp [intOf]; omega
            · obtain rfl : i = k + 1 := by omega
              have hall : sumI (ps.take (k + 1)) = T := by rw [List.take_of_length_le (by rw [HPL.out]; exact Nat.le_refl _)]; exact HPSUM.out
              rw [hall]
              have hTT : (T == T) = true := beq_self_eq_true _
              have HAW := Lib.hid (awake_any (w5.drewN q))
              clear hall
              go_wp2_with (go_at_call 7; refine (HAW.out).mono ?_; rintro e w6 ⟨rfl, hb6⟩)
              go_ret
              refine ⟨rfl, ?_⟩
              have e1 := HOLD.out
              rw [HTB.out] at e1
              exact (below_drewN e1 q).trans (hb6.mono (by have := e1.size; exact this))

end Go.Proofs.Ytbndcjbnpgdpjaa
