/- Contracts of Code and Compare of the classification's reference: the code with some numbers (of lists of up to 10^6 numbers), and the order of two codes (both of them codes). -/
import Derived.Test.YtionnohajnnfmaaGreatDoorRcl
namespace Go.Proofs.YtionnohajnnfmaaGreatDoor
open Go.RowKit Go.Lib Go.Proofs

theorem codeT_snoc (ns : List Nat) (n : Nat) : codeT (ns ++ [n]) = if ns = [] then decB n else codeT ns ++ ⟨#[46]⟩ ++ decB n := by
  by_cases h : ns = []
  · subst h
    rw [if_pos rfl]
    apply bytes_ext
    rw [decB_list]
    unfold codeT
    rw [txt_list]
    rfl
  · rw [if_neg h]
    apply bytes_ext
    unfold codeT
    rw [txt_list, List.map_append, List.map_cons, List.map_nil, joinL_snoc 46 _ _ (by simpa using h), ByteArray.data_append, ByteArray.data_append, Array.toList_append, Array.toList_append, decB_list]
    show _ = ((txt (joinL 46 (ns.map decDigits))).data.toList ++ [46]) ++ decDigits n
    rw [txt_list, List.append_assoc]
    rfl

/-- The numbers are from one to four (or none), each from 1 to 99. -/
def OkI (l : List Int) : Prop := l.length ≤ 4 ∧ ∀ n ∈ l, 1 ≤ n ∧ n ≤ 99
def toNats (l : List Int) : List Nat := l.map Int.toNat

theorem toNats_take {l : List Int} {k : Nat} (hk : k < l.length) : toNats (l.take (k + 1)) = toNats (l.take k) ++ [l[k].toNat] := by
  unfold toNats
  rw [List.take_succ_eq_append_getElem hk, List.map_append]; rfl

theorem codeT_small {ns : List Nat} (h1 : ns.length ≤ 4) (h2 : ∀ n ∈ ns, n ≤ 99) : (codeT ns).size ≤ 20 := by
  have : ∀ (ns : List Nat), (∀ n ∈ ns, n ≤ 99) → (joinL 46 (ns.map decDigits)).length ≤ 4 * ns.length := by
    intro ns
    induction ns with
    | nil => intro _; simp [joinL]
    | cons a t ih =>
      intro h
      have ha := decB_size a (by have := h a (by simp); omega)
      have hs : (decB a).size = (decDigits a).length := by rw [size_list, decB_list]
      have it := ih fun n hn => h n (by simp [hn])
      cases t with
      | nil => simp only [List.map_cons, List.map_nil, joinL, List.length_cons, List.length_nil]; omega
      | cons b t => simp only [List.map_cons, joinL, List.length_cons, List.length_append] at it ⊢; omega
  have := this ns h2
  unfold codeT
  rw [txt_size]
  omega

set_option maxRecDepth 100000 in
set_option maxHeartbeats 4000000 in
/-- Code, of good numbers. -/
theorem rclCode_any (l : List Int) (n : Nat) (v : Value) (w : World) (hr : RowAt w v l) (hl : l.length = n) (hv : ∃ ao cap, v = .slice ao n cap) (hok : OkI l) :
    Calls Tryz.prog 34 #[v] w fun e w' => e = .returned (.string (codeT (toNats l))) ∧ w = w' := by
  obtain ⟨h4, hall⟩ := hok
  have HALL := Lib.hid hall
  obtain ⟨ao, cap, rfl⟩ := hv
  have hcell : n = 0 ∨ ∃ b o, ao = some ⟨b, o, none⟩ ∧ ∀ i, i < n → w.cell? ⟨b, o + i, none⟩ = some (.int .i64 (l.getD i 0)) := by
    rcases hr with ⟨h0, _⟩ | ⟨b, o, c, hv, _, hc⟩
    · left; rw [← hl, h0]; rfl
    · right
      simp only [Value.slice.injEq] at hv
      exact ⟨b, o, hv.1, fun i hi => hc i (by rw [hl]; exact hi)⟩
  have HCE := Lib.hid hcell
  have HL := Lib.hid hl
  have hn4 : (n : Int) ≤ 4 := by omega
  have hn0 : n ≤ 4 := by omega
  clear hr hall hcell hl h4
  have hfin : toNats (l.take n) = toNats l := by rw [← HL.out, List.take_length]
  have HFIN := Lib.hid hfin
  clear hfin
  go_enter Tryz.func34, Tryz.ntmps34
  go_wp2
  go_loop [3, 11] (fun s i => ∃ k : Nat, i = .int .i64 k ∧ k ≤ n ∧ s = .string (codeT (toNats (l.take k)))) (fun _ i => n - (RowKit.intOf i).toNat)
  case atStart => exact ⟨0, rfl, by omega, rfl⟩
  case round =>
    obtain ⟨k, rfl, hkn, rfl⟩ := hrel
    by_cases hlt : k < n
    · rcases HCE.out with h | ⟨b, o, rfl, hc⟩
      · omega
      have hkl : k < l.length := by rw [HL.out]; exact hlt
      have hck := hc k hlt
      rw [getD_eq hkl] at hck
      obtain ⟨h1, h2⟩ := HALL.out l[k] (List.getElem_mem hkl)
      obtain ⟨x, hx⟩ : ∃ x : Nat, l[k] = x := ⟨l[k].toNat, by omega⟩
      have hst := toNats_take hkl
      rw [hx, Int.toNat_natCast] at hst
      rw [hx] at hck h1 h2
      have hsn := codeT_snoc (toNats (l.take k)) x
      rw [← hst] at hsn
      have hsz : (codeT (toNats (l.take k))).size ≤ 20 := codeT_small (by simp [toNats]; omega) (fun n hn => by
        obtain ⟨m, hm, rfl⟩ := List.mem_map.1 hn
        have := HALL.out m (List.mem_of_mem_take hm)
        omega)
      have hdz := decB_size x (by omega)
      have HI := Lib.hid (itoa_small x w (by omega))
      have hnil : k = 0 → toNats (l.take k) = [] := fun h => by subst h; rfl
      have hne : k ≠ 0 → toNats (l.take k) ≠ [] := fun h e => by
        have := congrArg List.length e
        simp only [toNats, List.length_map, List.length_take, List.length_nil] at this
        omega
      have hnext : (k = 0 → codeT (toNats (l.take (k + 1))) = codeT (toNats (l.take k)) ++ decB x) ∧ (k ≠ 0 → codeT (toNats (l.take (k + 1))) = codeT (toNats (l.take k)) ++ ⟨#[46]⟩ ++ decB x) := by
        refine ⟨fun h => ?_, fun h => ?_⟩
        · rw [hsn, if_pos (hnil h), hnil h]
          apply bytes_ext
          rw [ByteArray.data_append, Array.toList_append]
          rfl
        · rw [hsn, if_neg (hne h)]
      have HNE := Lib.hid hnext
      clear hsn hst hx hc hnil hne hnext
      generalize codeT (toNats (l.take k)) = t at *
      have a1 : ¬ 9223372036854775807 < t.size + (decB x).size := by omega
      have a2 : ¬ 9223372036854775807 < t.size + (⟨#[46]⟩ : ByteArray).size := by show ¬ 9223372036854775807 < t.size + 1; omega
      have a3 : ¬ 9223372036854775807 < t.size + 1 := by omega
      have a4 : ¬ 9223372036854775807 < t.size + 1 + (decB x).size := by omega
      by_cases h0 : k = 0
      · subst h0
        rw [Nat.add_zero] at hck
        have hn := HNE.out.1 rfl
        have HNN := Lib.hid hn
        clear hn
        go_wp2_with fail
        refine (HI.out).mono ?_
        rintro e w' ⟨rfl, rfl⟩
        go_wp2
        go_round
        case rel => exact ⟨1, by go_num, by omega, by rw [HNN.out]⟩
        case measure => simp [RowKit.intOf]; omega
      · have hn := HNE.out.2 h0
        have HNN := Lib.hid hn
        have hpos : (0 : Int) < (k : Int) := by omega
        clear hn
        go_wp2_with fail
        refine (HI.out).mono ?_
        rintro e w' ⟨rfl, rfl⟩
        go_wp2
        go_round
        case rel => exact ⟨k + 1, by go_num, by omega, by rw [HNN.out]⟩
        case measure => simp [RowKit.intOf]; omega
    · obtain rfl : k = n := by omega
      have hge : (k : Int) ≤ (k : Int) := Int.le_refl _
      rw [HFIN.out]
      go_wp2
      go_ret
      exact ⟨rfl, rfl⟩

set_option maxRecDepth 100000 in
set_option maxHeartbeats 8000000 in
/-- Compare, of two codes. -/
theorem rclCompare_codes (a b : ByteArray) (w : World) (ha : a.size ≤ 1000000) (hb : b.size ≤ 1000000) (hca : isCodeB a = true) (hcb : isCodeB b = true) :
    Calls Tryz.prog 73 #[.string a, .string b] w fun e w' => e = .returned (.int .i64 (cmpCode a b)) ∧ Below w.heap.size w w' := by
  have HP := Lib.hid (rclParts_any a w ha)
  have HQ := Lib.hid (fun w' => rclParts_any b w' hb)
  have hla := partsN_len a
  have hlb := partsN_len b
  have hpa : partsN a ≠ [] := of_decide_eq_true hca
  have hpb : partsN b ≠ [] := of_decide_eq_true hcb
  obtain ⟨r, hr⟩ : ∃ r, cmpCode a b = r := ⟨_, rfl⟩
  rw [hr]
  unfold cmpCode at hr
  rw [if_neg (fun h => hpa h.1)] at hr
  have HR := Lib.hid hr
  have hn0 : 0 < (partsN a).length := List.length_pos_iff.2 hpa
  have hm0 : 0 < (partsN b).length := List.length_pos_iff.2 hpb
  clear hr hca hcb hpa hpb
  go_enter Tryz.func73, Tryz.ntmps73
  go_wp2_with fail
  refine (HP.out).mono ?_
  rintro e w1 ⟨v, rfl, ho, hb1⟩
  have HB1 := Lib.hid hb1
  have HO := Lib.hid ho
  clear hb1 ho
  go_wp2_with fail
  refine (HQ.out _).mono ?_
  rintro e w2 ⟨u, rfl, ho2, hb2⟩
  have ho1 := ownsRow_below HO.out hb2
  have HB2 := Lib.hid (HB1.out.trans (hb2.mono HB1.out.size))
  clear hb2 HO HB1 HP HQ
  obtain ⟨ao, c, rfl, _, hl1, hx⟩ := owned_ints ho1
  obtain ⟨ao', c', rfl, _, hl2, hy⟩ := owned_ints ho2
  clear ho1 ho2
  obtain ⟨xs, hxs⟩ : ∃ xs, xs = asInts (partsN a) := ⟨_, rfl⟩
  obtain ⟨ys, hys⟩ : ∃ ys, ys = asInts (partsN b) := ⟨_, rfl⟩
  rw [← hxs] at hx hl1
  rw [← hys] at hy hl2
  rw [← hxs, ← hys] at HR
  generalize (partsN a).length = n at *
  generalize (partsN b).length = m at *
  rcases hx with hx | ⟨g, rfl, hg, _, hx⟩
  · omega
  rcases hy with hy | ⟨g', rfl, hg', _, hy⟩
  · omega
  have HX := Lib.hid hx
  have HY := Lib.hid hy
  have HL1 := Lib.hid hl1
  have HL2 := Lib.hid hl2
  have hn1 : ((n : Int) == 0) = false := by rw [beq_eq_false_iff_ne]; omega
  have hm1 : ((m : Int) == 0) = false := by rw [beq_eq_false_iff_ne]; omega
  clear hx hy hl1 hl2 hxs hys
  go_wp2
  go_loopw [7] (fun i wr => ∃ (k q : Nat), i = .int .i64 k ∧ k ≤ n ∧ k ≤ m ∧ wr = w2.drewN q ∧ Hid (cmpL (xs.drop k) (ys.drop k) = r)) (fun i _ => n - (RowKit.intOf i).toNat)
  case atStart => exact ⟨0, 0, rfl, by omega, by omega, rfl, HR⟩
  case round =>
    obtain ⟨k, q, rfl, hkn, hkm, rfl, HK⟩ := hrel
    by_cases hlt : k < n
    · by_cases hlt2 : k < m
      · have c1 := HX.out k hlt
        have c2 := HY.out k hlt2
        have hd := cmpL_drop (xs := xs) (ys := ys) (k := k) (by rw [HL1.out]; exact hlt) (by rw [HL2.out]; exact hlt2)
        rw [HK.out] at hd
        generalize xs.getD k 0 = x at *
        generalize ys.getD k 0 = y at *
        have hk0 : (0 : Int) ≤ (k : Int) := by omega
        have hk1 : (k : Int) < (n : Int) := by omega
        have hk2 : (k : Int) < (m : Int) := by omega
        rw [Nat.zero_add] at c1 c2
        by_cases h1 : x < y
        · rw [if_pos h1] at hd
          have HD := Lib.hid hd
          clear hd
          go_wp2
          go_quiet (fail)
          go_wp2
          go_ret
          exact ⟨ret_int HD.out.symm, below_drewN (below_drewN HB2.out _) _⟩
        · rw [if_neg h1] at hd
          have h1' : y ≤ x := by omega
          by_cases h2 : y < x
          · rw [if_pos h2] at hd
            have HD := Lib.hid hd
            clear hd
            go_wp2
            go_quiet (fail)
            go_wp2
            go_quiet (fail)
            go_wp2
            go_ret
            exact ⟨ret_int HD.out.symm, below_drewN (below_drewN (below_drewN HB2.out _) _) _⟩
          · rw [if_neg h2] at hd
            have HD := Lib.hid hd
            have h2' : x ≤ y := by omega
            clear hd
            go_wp2
            go_quiet (fail)
            go_wp2
            go_quiet (fail)
            go_wp2
            go_roundw
            case rel => exact ⟨k + 1, _, by go_num, by omega, by omega, rfl, Lib.hid HD.out.symm⟩
            case measure => simp [RowKit.intOf]; omega
      · obtain rfl : k = m := by omega
        have hr1 : r = 1 := by
          have := HK.out
          rw [List.drop_eq_nil_of_le (show ys.length ≤ k by rw [HL2.out]; exact Nat.le_refl _), cmpL_le_nil, if_neg] at this
          · exact this.symm
          · intro e
            have := congrArg List.length e
            simp only [List.length_drop, HL1.out, List.length_nil] at this
            omega
        subst hr1
        have hkk : (k : Int) < (n : Int) := by omega
        have hkk2 : ¬ (n : Int) < (k : Int) := by omega
        have hge : (k : Int) ≤ (k : Int) := Int.le_refl _
        go_wp2
        go_ret
        exact ⟨rfl, below_drewN HB2.out _⟩
    · obtain rfl : k = n := by omega
      have hr1 : r = if k < m then -1 else 0 := by
        have := HK.out
        rw [List.drop_eq_nil_of_le (show xs.length ≤ k by rw [HL1.out]; exact Nat.le_refl _), cmpL_nil_le] at this
        rw [← this]
        by_cases hkm2 : k < m
        · rw [if_pos hkm2, if_neg]
          intro e
          have := congrArg List.length e
          simp only [List.length_drop, HL2.out, List.length_nil] at this
          omega
        · rw [if_neg hkm2, if_pos (List.drop_eq_nil_of_le (by rw [HL2.out]; omega))]
      have hge : (k : Int) ≤ (k : Int) := Int.le_refl _
      by_cases hkm2 : k < m
      · rw [if_pos hkm2] at hr1
        subst hr1
        have hlt3 : (k : Int) < (m : Int) := by omega
        go_wp2
        go_ret
        exact ⟨rfl, below_drewN HB2.out _⟩
      · rw [if_neg hkm2] at hr1
        subst hr1
        obtain rfl : k = m := by omega
        go_wp2
        go_ret
        exact ⟨rfl, below_drewN HB2.out _⟩

end Go.Proofs.YtionnohajnnfmaaGreatDoor
