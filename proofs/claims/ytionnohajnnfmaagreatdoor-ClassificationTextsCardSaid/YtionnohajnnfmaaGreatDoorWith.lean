/- The contract of treasurymake.with: some codes with one more, in order, each once; for lists of up to 1000 codes. -/
import Derived.Test.YtionnohajnnfmaaGreatDoorRclC
namespace Go.Proofs.YtionnohajnnfmaaGreatDoor
open Go.RowKit Go.Lib Go.Proofs

/-- The order of two lists of numbers from 1 to 99. -/
def cmpN (a b : List Nat) : Int := cmpL (asInts a) (asInts b)

/-- A code more, ahead of the first one that is greater. -/
def insN (c : List Nat) : List (List Nat) → List (List Nat)
  | [] => [c]
  | x :: l => if cmpN c x < 0 then c :: x :: l else x :: insN c l

/-- Some codes with one more, each once. -/
def withN (c : List Nat) (l : List (List Nat)) : List (List Nat) := if l.any (fun x => decide (cmpN c x = 0)) then l else insN c l

def doneB (c : List Nat) (l : List (List Nat)) : Bool := l.any fun x => decide (cmpN c x < 0)
/-- What has been written when l has been gone through. -/
def outN (c : List Nat) (l : List (List Nat)) : List (List Nat) := if doneB c l = true then insN c l else l

theorem insN_none {c : List Nat} : ∀ {l : List (List Nat)}, doneB c l = false → insN c l = l ++ [c]
  | [], _ => rfl
  | x :: l, h => by
    simp only [doneB, List.any_cons, Bool.or_eq_false_iff, decide_eq_false_iff_not] at h
    rw [insN, if_neg h.1, insN_none h.2]; rfl
theorem insN_done {c x : List Nat} : ∀ {l : List (List Nat)}, doneB c l = true → insN c (l ++ [x]) = insN c l ++ [x]
  | [], h => by simp [doneB] at h
  | y :: l, h => by
    by_cases hy : cmpN c y < 0
    · rw [List.cons_append, insN, if_pos hy, insN, if_pos hy]; rfl
    · have h2 : doneB c l = true := by simpa [doneB, hy] using h
      rw [List.cons_append, insN, if_neg hy, insN, if_neg hy, insN_done h2]; rfl
theorem insN_new {c x : List Nat} (hx : cmpN c x < 0) : ∀ {l : List (List Nat)}, doneB c l = false → insN c (l ++ [x]) = l ++ [c] ++ [x]
  | [], _ => by rw [List.nil_append, insN, if_pos hx]; rfl
  | y :: l, h => by
    simp only [doneB, List.any_cons, Bool.or_eq_false_iff, decide_eq_false_iff_not] at h
    rw [List.cons_append, insN, if_neg h.1, insN_new hx h.2]; rfl
theorem doneB_snoc (c x : List Nat) (l : List (List Nat)) : doneB c (l ++ [x]) = (doneB c l || decide (cmpN c x < 0)) := by simp [doneB]

theorem outN_done {c x : List Nat} {l : List (List Nat)} (h : doneB c l = true) : outN c (l ++ [x]) = outN c l ++ [x] := by
  unfold outN
  rw [doneB_snoc, h, Bool.true_or, if_pos rfl, if_pos rfl, insN_done h]
theorem outN_new {c x : List Nat} {l : List (List Nat)} (h : doneB c l = false) (hx : cmpN c x < 0) : outN c (l ++ [x]) = outN c l ++ [c] ++ [x] := by
  unfold outN
  rw [doneB_snoc, h, decide_eq_true hx, Bool.false_or, if_pos rfl, if_neg (by decide), insN_new hx h]
theorem outN_not {c x : List Nat} {l : List (List Nat)} (h : doneB c l = false) (hx : ¬ cmpN c x < 0) : outN c (l ++ [x]) = outN c l ++ [x] := by
  unfold outN
  rw [doneB_snoc, h, decide_eq_false hx, Bool.false_or, if_neg (by decide), if_neg (by decide)]
theorem outN_len (c : List Nat) (l : List (List Nat)) : (outN c l).length ≤ l.length + 1 := by
  have : (insN c l).length = l.length + 1 := by
    induction l with
    | nil => rfl
    | cons x l ih => unfold insN; split <;> simp [ih]
  unfold outN
  split <;> omega

/-- The texts of some codes. -/
def texts (l : List (List Nat)) : List ByteArray := l.map codeT
theorem texts_snoc (l : List (List Nat)) (x : List Nat) : texts (l ++ [x]) = texts l ++ [codeT x] := by simp [texts]
theorem texts_len (l : List (List Nat)) : (texts l).length = l.length := by simp [texts]

/-- What with hands back. -/
def WithPost (base : Nat) (l : List (List Nat)) (w : World) (e : Ending) (w' : World) : Prop :=
  ∃ v, e = .returned v ∧ w'.ownsRow base 9 1 v l.length (cellsS (texts l)) ∧ Below w.heap.size w w'

theorem own_texts {w : World} {base : Nat} {v : Value} {l : List (List Nat)} {s : ByteArray} {m : Nat} (h : w.ownsRow base 9 1 v (m + 1) (cellsS (texts l) ++ [.string s])) {x : List Nat} (hs : s = codeT x) (hm : l.length = m) : w.ownsRow base 9 1 v (l ++ [x]).length (cellsS (texts (l ++ [x]))) := by
  subst hs
  rw [texts_snoc, ← cellsS_app, List.length_append, hm]
  exact h

set_option maxRecDepth 100000 in
set_option maxHeartbeats 8000000 in
theorem with_any (base : Nat) (l : List (List Nat)) (c : List Nat) (v : Value) (w : World) (hbase : base ≤ w.heap.size) (ho : w.ownsRow base 9 1 v l.length (cellsS (texts l))) (hl : l.length ≤ 1000) (hg : ∀ x ∈ l, GoodN x) (hc : GoodN c) :
    Calls Tryz.prog 36 #[v, .string (codeT c)] w (WithPost base (withN c l) w) := by
  obtain ⟨i0, hi, hz0, hz1, hz2⟩ := infoS_parts
  obtain ⟨_, ao, cap, hv, hcap, hcells⟩ := RowG.owns ho
  obtain ⟨L, hL⟩ : ∃ L, withN c l = L := ⟨_, rfl⟩
  rw [hL]
  have HO := Lib.hid ho
  have HLL := Lib.hid hL
  have HG := Lib.hid hg
  have hcmp := fun x (hx : x ∈ l) W => rclCompare_codes (codeT c) (codeT x) W (by have := codeT_size hc; omega) (by have := codeT_size (hg x hx); omega) (isCodeB_codeT hc) (isCodeB_codeT (hg x hx))
  have hcmp2 : ∀ x, x ∈ l → ∀ W, Calls Tryz.prog 73 #[.string (codeT c), .string (codeT x)] W fun e w' => e = .returned (.int .i64 (cmpN c x)) ∧ Below W.heap.size W w' := fun x hx W => by
    have := hcmp x hx W
    rwa [cmpCode_codeT hc (hg x hx)] at this
  have HC := Lib.hid hcmp2
  obtain ⟨C, hC⟩ : ∃ C, codeT c = C := ⟨_, rfl⟩
  rw [hC] at HC ⊢
  have HCC := Lib.hid hC
  obtain ⟨n, hn⟩ : ∃ n, n = l.length := ⟨_, rfl⟩
  rw [← hn] at hcells
  rw [← hn] at HO hcap hl hv
  have HN := Lib.hid hn
  have HCE := Lib.hid hcells
  subst hv
  clear ho hL hg hcmp hcmp2 hC hn hcells hc
  go_enter Tryz.func36, Tryz.ntmps36
  go_wp2
  go_loopw [5, 6, 12] (fun u d i wr => ∃ k : Nat, i = .int .i64 k ∧ k ≤ n ∧ d = .bool (doneB c (l.take k)) ∧ Hid (wr.ownsRow w.heap.size 9 1 u (outN c (l.take k)).length (cellsS (texts (outN c (l.take k))))) ∧ Hid (Below w.heap.size w wr) ∧ Hid (∀ x ∈ l.take k, cmpN c x ≠ 0)) (fun _ _ i _ => n - (RowKit.intOf i).toNat)
  case atStart => exact ⟨0, rfl, by omega, rfl, Lib.hid (World.ownsRow_nil _ _ _ _), Lib.hid (Below.refl _ _), Lib.hid (by simp)⟩
  case round =>
    obtain ⟨k, rfl, hkn, rfl, HU, HB, HNE⟩ := hrel
    by_cases hlt : k < n
    · rcases HCE.out with h | ⟨b, o, rfl, hb, hc⟩
      · omega
      have hkl : k < l.length := by rw [← HN.out]; exact hlt
      have hcell : wr.cell? ⟨b, o + k, none⟩ = some (.string (codeT l[k])) := by
        rw [HB.out.cell (by exact hb), hc k (by omega), cellsS_get (texts l) k (by rw [texts_len]; exact hkl)]
        simp [texts]
      obtain ⟨x, hx⟩ : ∃ x, x = l[k] := ⟨_, rfl⟩
      rw [← hx] at hcell
      have hcall := HC.out x (by rw [hx]; exact List.getElem_mem hkl) wr
      have hsn : l.take (k + 1) = l.take k ++ [x] := by rw [hx]; exact List.take_succ_eq_append_getElem hkl
      have hlen : (l.take k).length ≤ k := List.length_take_le _ _
      obtain ⟨M, hM⟩ : ∃ M, M = l.take k := ⟨_, rfl⟩
      rw [← hM] at hsn hlen HU HNE ⊢
      have hol := outN_len c M
      have hon : (outN c M).length ≤ 1001 := by omega
      have hall : cmpN c x ≠ 0 → ∀ y ∈ l.take (k + 1), cmpN c y ≠ 0 := fun h y hy => by
        rw [hsn] at hy
        rcases List.mem_append.1 hy with hy | hy
        · exact HNE.out y hy
        · rw [List.mem_singleton.1 hy]; exact h
      have heqL : cmpN c x = 0 → L = l := fun h => by
        rw [← HLL.out]
        unfold withN
        rw [if_pos]
        exact List.any_eq_true.2 ⟨x, by rw [hx]; exact List.getElem_mem hkl, decide_eq_true h⟩
      obtain ⟨X, hX⟩ : ∃ X, X = codeT x := ⟨_, rfl⟩
      rw [← hX] at hcell hcall
      have HX := Lib.hid hX
      have HHALL := Lib.hid hall
      have HSN := Lib.hid hsn
      have HEQ := Lib.hid heqL
      have hnew : ∀ W, Below wr.heap.size wr W → W.ownsRow w.heap.size 9 1 u5 (outN c M).length (cellsS (texts (outN c M))) ∧ Below w.heap.size w W ∧ w.heap.size ≤ W.heap.size := fun W hW =>
        ⟨ownsRow_below HU.out hW, HB.out.trans (hW.mono HB.out.size), (HB.out.trans (hW.mono HB.out.size)).size⟩
      have HNEW := Lib.hid hnew
      have d1 : ∀ z, cmpN c x = z → doneB c (M ++ [x]) = (doneB c M || decide (z < 0)) := fun z hz => by rw [doneB_snoc, hz]
      have o1 := fun h => outN_done (c := c) (x := x) (l := M) h
      have o2 := fun h (hx : cmpN c x < 0) => outN_new (c := c) (x := x) (l := M) h hx
      have o3 := fun h (hx : ¬ cmpN c x < 0) => outN_not (c := c) (x := x) (l := M) h hx
      obtain ⟨z, hz⟩ : ∃ z, cmpN c x = z := ⟨_, rfl⟩
      have d2 := d1 z hz
      rw [hz] at hcall HHALL HEQ o2 o3
      have HD2 := Lib.hid d2
      have HO1 := Lib.hid o1
      have HO2 := Lib.hid o2
      have HO3 := Lib.hid o3
      have HCALL := Lib.hid hcall
      obtain ⟨dn, hdn⟩ : ∃ dn, dn = doneB c M := ⟨_, rfl⟩
      rw [← hdn] at HD2 HO1 HO2 HO3 ⊢
      clear hcall hsn hall heqL hX hx hc hnew d1 o1 o2 o3 hz d2 hM hdn
      by_cases hzz : z = 0
      · subst hzz
        have hLl := HEQ.out rfl
        have HLL2 := Lib.hid hLl
        clear hLl
        go_wp2_with fail
        refine (HCALL.out).mono ?_
        rintro e w1 ⟨rfl, hb1⟩
        obtain ⟨_, hb2, _⟩ := HNEW.out _ hb1
        go_wp2
        go_ret
        refine ⟨_, rfl, ?_, hb2⟩
        rw [HLL2.out, ← HN.out]
        exact ownsRow_below HO.out (hb2.mono (Nat.le_refl _))
      · have hzz' : (z == 0) = false := by rw [beq_eq_false_iff_ne]; exact hzz
        have hstep := HHALL.out hzz
        have HSTEP := Lib.hid hstep
        clear hstep
        by_cases hneg : z < 0
        · cases dn with
          | true =>
            have hout := HO1.out rfl
            have hdd : doneB c (M ++ [x]) = true := by rw [HD2.out]; rfl
            have HOUT := Lib.hid hout
            have HDD := Lib.hid hdd
            clear hout hdd
            go_wp2_with fail
            refine (HCALL.out).mono ?_
            rintro e w1 ⟨rfl, hb1⟩
            obtain ⟨q1, q2, q3⟩ := HNEW.out _ hb1
            have HQ1 := Lib.hid q1
            have HQ2 := Lib.hid q2
            clear q1 q2 hb1
            go_wp2_with (at_builtin; refine wpList_append_own _ rfl _ _ 34 rfl w.heap.size 9 i0 (.string ⟨#[]⟩) 1 16 Tryz.underlying34 hi hz0 hz1 hz2 rfl (by decide) _ _ _ rfl (HQ1.out.alloc _) ⟨w1.heap.size, 0, none⟩ 1 1 [.string X] rfl rfl (one_new _ _ _ _ rfl) (one_str _) (by unfold maxLen; omega) (by omega) (by simp; omega) ?_; intro v' w5 hown5 hgr5 _)
            have hB5 : Below w.heap.size w w5 := ((HQ2.out.alloc HQ2.out.size _).grown hgr5 (by simp; omega) fun j e => ownBlock_le HQ1.out j e)
            have HO5 := Lib.hid hown5
            have HB5 := Lib.hid hB5
            clear hown5 hB5 hgr5
            go_roundw
            case rel => exact ⟨k + 1, by go_num, by omega, by rw [HSN.out, HDD.out], Lib.hid (by rw [HSN.out, HOUT.out]; exact own_texts HO5.out HX.out rfl), HB5, HSTEP⟩
            case measure => simp [RowKit.intOf]; omega
          | false =>
            have hout := HO2.out rfl hneg
            have hdd : doneB c (M ++ [x]) = true := by rw [HD2.out, decide_eq_true hneg]; rfl
            have HOUT := Lib.hid hout
            have HDD := Lib.hid hdd
            have hl2 : (outN c M ++ [c]).length ≤ 1002 := by simp; omega
            clear hout hdd
            go_wp2_with fail
            refine (HCALL.out).mono ?_
            rintro e w1 ⟨rfl, hb1⟩
            obtain ⟨q1, q2, q3⟩ := HNEW.out _ hb1
            have HQ1 := Lib.hid q1
            have HQ2 := Lib.hid q2
            clear q1 q2 hb1
            go_wp2_with (first | (at_builtin; refine wpList_append_own _ rfl _ _ 34 rfl w.heap.size 9 i0 (.string ⟨#[]⟩) 1 16 Tryz.underlying34 hi hz0 hz1 hz2 rfl (by decide) _ _ _ rfl (HQ1.out.alloc _) ⟨w1.heap.size, 0, none⟩ 1 1 [.string C] rfl rfl (one_new _ _ _ _ rfl) (one_str _) (by unfold maxLen; omega) (by omega) (by simp; omega) ?_; intro v1 w5 hown5 hgr5 _; have hB5 : Below w.heap.size w w5 := ((HQ2.out.alloc HQ2.out.size _).grown hgr5 (by simp; omega) fun j e => ownBlock_le HQ1.out j e); have hz5 := hB5.size; have HB5 := Lib.hid hB5; have HO5 := Lib.hid (own_texts hown5 HCC.out.symm rfl); clear hB5 hown5 hgr5) | (at_builtin; refine wpList_append_own _ rfl _ _ 34 rfl w.heap.size 9 i0 (.string ⟨#[]⟩) 1 16 Tryz.underlying34 hi hz0 hz1 hz2 rfl (by decide) _ _ _ rfl (HO5.out.alloc _) ⟨w5.heap.size, 0, none⟩ 1 1 [.string X] rfl rfl (one_new _ _ _ _ rfl) (one_str _) (by unfold maxLen; omega) (by omega) (by simp; omega) ?_; intro v2 w6 hown6 hgr6 _))
            have hB6 : Below w.heap.size w w6 := ((HB5.out.alloc HB5.out.size _).grown hgr6 (by simp; omega) fun j e => ownBlock_le HO5.out j e)
            have HO6 := Lib.hid hown6
            have HB6 := Lib.hid hB6
            clear hown6 hB6 hgr6
            go_roundw
            case rel => exact ⟨k + 1, by go_num, by omega, by rw [HSN.out, HDD.out], Lib.hid (by rw [HSN.out, HOUT.out]; exact own_texts HO6.out HX.out rfl), HB6, HSTEP⟩
            case measure => simp [RowKit.intOf]; omega
        · have hpos : 0 ≤ z := by omega
          have hout : outN c (M ++ [x]) = outN c M ++ [x] := by
            cases dn with
            | true => exact HO1.out rfl
            | false => exact HO3.out rfl hneg
          have hdd : doneB c (M ++ [x]) = dn := by rw [HD2.out, decide_eq_false hneg, Bool.or_false]
          have HOUT := Lib.hid hout
          have HDD := Lib.hid hdd
          clear hout hdd
          go_wp2_with fail
          refine (HCALL.out).mono ?_
          rintro e w1 ⟨rfl, hb1⟩
          obtain ⟨q1, q2, q3⟩ := HNEW.out _ hb1
          have HQ1 := Lib.hid q1
          have HQ2 := Lib.hid q2
          clear q1 q2 hb1
          go_wp2_with (at_builtin; refine wpList_append_own _ rfl _ _ 34 rfl w.heap.size 9 i0 (.string ⟨#[]⟩) 1 16 Tryz.underlying34 hi hz0 hz1 hz2 rfl (by decide) _ _ _ rfl (HQ1.out.alloc _) ⟨w1.heap.size, 0, none⟩ 1 1 [.string X] rfl rfl (one_new _ _ _ _ rfl) (one_str _) (by unfold maxLen; omega) (by omega) (by simp; omega) ?_; intro v' w5 hown5 hgr5 _)
          have hB5 : Below w.heap.size w w5 := ((HQ2.out.alloc HQ2.out.size _).grown hgr5 (by simp; omega) fun j e => ownBlock_le HQ1.out j e)
          have HO5 := Lib.hid hown5
          have HB5 := Lib.hid hB5
          clear hown5 hB5 hgr5
          go_roundw
          case rel => exact ⟨k + 1, by go_num, by omega, by rw [HSN.out, HDD.out], Lib.hid (by rw [HSN.out, HOUT.out]; exact own_texts HO5.out HX.out rfl), HB5, HSTEP⟩
          case measure => simp [RowKit.intOf]; omega
    · obtain rfl : k = n := by omega
      have hge : (k : Int) ≤ (k : Int) := Int.le_refl _
      have htk : l.take k = l := by rw [HN.out, List.take_length]
      rw [htk] at HU HNE ⊢
      have hLi : L = insN c l := by
        rw [← HLL.out]
        unfold withN
        rw [if_neg]
        intro h
        obtain ⟨x, hx, hd⟩ := List.any_eq_true.1 h
        exact HNE.out x hx (of_decide_eq_true hd)
      have hol := outN_len c l
      have hbz := HB.out.size
      have hlk : l.length = k := HN.out.symm
      cases hd : doneB c l with
      | true =>
        have hfin : outN c l = L := by unfold outN; rw [hd, if_pos rfl, hLi]
        rw [hfin] at HU
        clear htk hLi hd hfin
        go_wp2
        go_ret
        exact ⟨_, rfl, ownsRow_mono HU.out hbase, HB.out⟩
      | false =>
        have hfin : L = outN c l ++ [c] := by unfold outN; rw [hd, if_neg (by decide), hLi, insN_none hd]
        have HFIN := Lib.hid hfin
        clear htk hLi hd hfin
        go_wp2_with (at_builtin; refine wpList_append_own _ rfl _ _ 34 rfl w.heap.size 9 i0 (.string ⟨#[]⟩) 1 16 Tryz.underlying34 hi hz0 hz1 hz2 rfl (by decide) _ _ _ rfl (HU.out.alloc _) ⟨wr.heap.size, 0, none⟩ 1 1 [.string C] rfl rfl (one_new _ _ _ _ rfl) (one_str _) (by unfold maxLen; omega) (by omega) (by simp; omega) ?_; intro v' w5 hown5 hgr5 _)
        have hB5 : Below w.heap.size w w5 := ((HB.out.alloc HB.out.size _).grown hgr5 (by simp; omega) fun j e => ownBlock_le HU.out j e)
        go_ret
        refine ⟨_, rfl, ?_, hB5⟩
        rw [HFIN.out]
        exact ownsRow_mono (own_texts hown5 HCC.out.symm rfl) hbase

end Go.Proofs.YtionnohajnnfmaaGreatDoor
