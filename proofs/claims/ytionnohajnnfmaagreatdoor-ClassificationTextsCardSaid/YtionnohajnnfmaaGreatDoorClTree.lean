/- Contracts of classification.parent and codes: a code without its last number; the codes of a list of headings; for lists of up to 10^6 headings with texts of up to 10^6 bytes. -/
import Derived.Test.YtionnohajnnfmaaGreatDoorClCmp
import Derived.Test.YtionnohajnnfmaaGreatDoorRowG
namespace Go.Proofs.YtionnohajnnfmaaGreatDoor
open Go.RowKit Go.Lib Go.Proofs

/-- A text up to its last point, without it. -/
def parentB (s : ByteArray) : ByteArray := s.extract 0 (lastIndexByte s 46).toNat

theorem parentB_size (s : ByteArray) : (parentB s).size ≤ s.size := by unfold parentB; rw [ByteArray.size_extract]; omega

set_option maxHeartbeats 1000000 in
theorem clparent_any (s : ByteArray) (w : World) (hs : s.size ≤ 1000000) :
    Calls Tryz.prog 44 #[.string s] w fun e w' => e = .returned (.string (parentB s)) ∧ w = w' := by
  have h1 := Tryz.strings_LastIndex_one s ⟨#[46]⟩ rfl (by omega)
  have h2 := lastIndexByte_spec s 46
  have e46 : (((⟨#[46]⟩ : ByteArray)[0]'(by decide)).toNat : Int) = 46 := rfl
  rw [e46] at h1
  have hp : parentB s = s.extract 0 (lastIndexByte s 46).toNat := rfl
  rw [hp]
  clear hp
  rcases h2 with ⟨he, _⟩ | ⟨i, hi, he, _⟩
  · rw [he] at h1 ⊢
    have H1 := Lib.hid h1
    clear h1 he
    go_enter Tryz.func44, Tryz.ntmps44
    go_wp2_with fail
    refine (H1.out _).mono ?_
    rintro e w' ⟨rfl, rfl⟩
    go_wp2
    go_ret
    exact ⟨rfl, rfl⟩
  · rw [he] at h1 ⊢
    have H1 := Lib.hid h1
    have hi1 : (i : Int) ≤ (s.size : Int) := by omega
    clear h1 he
    go_enter Tryz.func44, Tryz.ntmps44
    go_wp2_with fail
    refine (H1.out _).mono ?_
    rintro e w' ⟨rfl, rfl⟩
    go_wp2
    go_ret
    exact ⟨by simp, rfl⟩

/-- A heading: its code and its name. -/
abbrev Head := ByteArray × ByteArray

/-- Some headings, as Go's slice of them holds them. -/
def cellsH : List Head → List Value
  | [] => []
  | h :: l => .string h.1 :: .string h.2 :: cellsH l

theorem cellsH_len (l : List Head) : (cellsH l).length = l.length * 2 := by
  induction l with
  | nil => rfl
  | cons h l ih => simp only [cellsH, List.length_cons, ih]; omega

theorem cellsH_get : ∀ (l : List Head) (i : Nat) (hi : i < l.length), (cellsH l)[i * 2]? = some (.string l[i].1) ∧ (cellsH l)[i * 2 + 1]? = some (.string l[i].2)
  | [], i, hi => absurd hi (Nat.not_lt_zero _)
  | h :: l, 0, _ => ⟨rfl, rfl⟩
  | h :: l, i + 1, hi => by
    have := cellsH_get l i (by simpa using hi)
    rw [show (i + 1) * 2 = i * 2 + 1 + 1 by omega]
    simpa [cellsH] using this

theorem cellsH_app (l r : List Head) : cellsH l ++ cellsH r = cellsH (l ++ r) := by
  induction l with
  | nil => rfl
  | cons h l ih => simp only [cellsH, List.cons_append, ih]

/-- The headings of a list have texts of up to 10^6 bytes. -/
def HeadsOk (hs : List Head) : Prop := ∀ h ∈ hs, h.1.size ≤ 1000000 ∧ h.2.size ≤ 1000000

/-- The codes of a list of headings, without the texts that are none. -/
def codesOf (hs : List Head) : List ByteArray := (hs.map (·.1)).filter isCodeB

theorem codesOf_snoc {hs : List Head} {k : Nat} (hk : k < hs.length) : codesOf (hs.take (k + 1)) = codesOf (hs.take k) ++ if isCodeB hs[k].1 = true then [hs[k].1] else [] := by
  unfold codesOf
  rw [List.take_succ_eq_append_getElem hk, List.map_append, List.filter_append]
  cases h : isCodeB hs[k].1 <;> simp [h]

theorem codesOf_len (hs : List Head) : (codesOf hs).length ≤ hs.length := by
  unfold codesOf
  exact Nat.le_trans (List.length_filter_le _ _) (by simp)

theorem Tryz.infoS : (Tryz.prog.info? 9).map (fun i => (i.zero, i.size, i.bytes)) = some (some (.string ⟨#[]⟩), 1, 16) := by kernel_rfl
theorem infoS_parts : ∃ i, Tryz.prog.info? 9 = some i ∧ i.zero = some (.string ⟨#[]⟩) ∧ i.size = 1 ∧ i.bytes = 16 := info_parts Tryz.infoS

theorem one_str (s : ByteArray) : ∀ u ∈ [Value.string s], u.oneCell' = true := by
  intro u hu; simp at hu; subst hu; rfl

/-- What codes hands back. -/
def CodesPost (w : World) (cs : List ByteArray) (e : Ending) (w' : World) : Prop :=
  ∃ v, e = .returned v ∧ w'.ownsRow w.heap.size 9 1 v cs.length (cellsS cs) ∧ Below w.heap.size w w'

set_option maxRecDepth 100000 in
set_option maxHeartbeats 4000000 in
theorem clcodes_any (hs : List Head) (v : Value) (w : World) (hL : Lay w) (hr : RowG w v hs.length 2 (cellsH hs)) (hlen : hs.length ≤ 1000000) (hok : HeadsOk hs) :
    Calls Tryz.prog 42 #[v] w (CodesPost w (codesOf hs)) := by
  obtain ⟨h0, ao, cap, rfl, hcap, hc⟩ := hr
  obtain ⟨i0, hi, hz0, hz1, hz2⟩ := infoS_parts
  obtain ⟨n, hn⟩ : ∃ n, n = hs.length := ⟨_, rfl⟩
  have HN := Lib.hid hn
  have HL := Lib.hid hL
  have HOK := Lib.hid hok
  rw [← hn] at hc hlen hcap ⊢
  clear h0 hn hL hok
  have hnil : w.ownsRow w.heap.size 9 1 (.slice none 0 0) 0 (cellsS (codesOf (hs.take 0))) := World.ownsRow_nil _ _ _ _
  have HNIL := Lib.hid hnil
  clear hnil
  by_cases hz : n = 0
  · subst hz
    go_enter Tryz.func42, Tryz.ntmps42
    go_wp2
    go_loop [3, 8] (fun u i => u = .slice none 0 0 ∧ i = .int .i64 0) (fun _ _ => 0)
    case atStart => exact ⟨rfl, rfl⟩
    case round =>
      obtain ⟨rfl, rfl⟩ := hrel
      go_wp2
      go_ret
      have hx0 : hs = [] := List.length_eq_zero_iff.1 HN.out.symm
      subst hx0
      exact ⟨_, rfl, HNIL.out, Below.refl _ _⟩
  · rcases hc with hc | ⟨b, o, rfl, hb, hc⟩
    · exact absurd hc hz
    have HC := Lib.hid hc
    clear hc
    go_enter Tryz.func42, Tryz.ntmps42
    go_wp2
    go_loopw [3, 8] (fun u i wr => ∃ k : Nat, i = .int .i64 k ∧ k ≤ n ∧ Hid (wr.ownsRow w.heap.size 9 1 u (codesOf (hs.take k)).length (cellsS (codesOf (hs.take k)))) ∧ Hid (Below w.heap.size w wr)) (fun _ i _ => n - (RowKit.intOf i).toNat)
    case atStart => exact ⟨0, rfl, by omega, Lib.hid HNIL.out, Lib.hid (Below.refl _ _)⟩
    case round =>
      obtain ⟨k, rfl, hkn, HO, HB⟩ := hrel
      by_cases hlt : k < n
      · have hlx : k < hs.length := by rw [← HN.out]; exact hlt
        obtain ⟨g1, g2⟩ := cellsH_get hs k hlx
        have c1 : wr.cell? ⟨b, o + k * 2, none⟩ = some (.string hs[k].1) := by rw [HB.out.cell (by exact hb), HC.out (k * 2) (by omega), g1]
        have c2 : wr.cell? ⟨b, o + k * 2 + 1, none⟩ = some (.string hs[k].2) := by rw [Nat.add_assoc, HB.out.cell (by exact hb), HC.out (k * 2 + 1) (by omega), g2]
        obtain ⟨k1, k2⟩ := HOK.out hs[k] (List.getElem_mem hlx)
        have hst := codesOf_snoc hlx
        have hLr : Lay wr := HL.out.below HB.out (Nat.le_refl _)
        have hLa : ∀ o, Lay (wr.alloc o) := fun o => hLr.below (below_alloc wr o) (Nat.le_refl _)
        generalize hs[k].1 = c at c1 k1 hst
        generalize hs[k].2 = d at c2 k2
        have hcall := fun o => clisCode_any c (wr.alloc o) (hLa o) k1
        have hcl := codesOf_len (hs.take k)
        have hcl2 : (hs.take k).length ≤ k := List.length_take_le _ _
        obtain ⟨cs, hcs⟩ : ∃ cs, cs = codesOf (hs.take k) := ⟨_, rfl⟩
        rw [← hcs] at hst hcl HO
        cases hb2 : isCodeB c with
        | true =>
          rw [hb2] at hcall
          rw [hb2, if_pos rfl] at hst
          have HST := Lib.hid hst
          have HCALL := Lib.hid hcall
          clear hcall hst hLr hLa hb2 hcs
          have hbw : b < wr.heap.size := Nat.lt_of_lt_of_le hb HB.out.size
          have hown2 : ∀ W, Below (wr.alloc (.cells #[.string c, .string d] 37)).heap.size (wr.alloc (.cells #[.string c, .string d] 37)) W → W.ownsRow w.heap.size 9 1 u3 cs.length (cellsS cs) ∧ W.cell? ⟨wr.heap.size, 0, none⟩ = some (.string c) ∧ Below w.heap.size w W ∧ w.heap.size ≤ W.heap.size := fun W hW => by
            have h1 := below_alloc wr (.cells #[.string c, .string d] 37)
            have hB2 : Below wr.heap.size wr W := h1.trans (hW.mono h1.size)
            have hB3 := HB.out.trans (hB2.mono HB.out.size)
            refine ⟨ownsRow_below HO.out hB2, ?_, hB3, hB3.size⟩
            rw [hW.cell (p := ⟨wr.heap.size, 0, none⟩) (by simp)]
            simp
          have HW := Lib.hid hown2
          clear hown2
          go_wp2_with fail
          refine (HCALL.out _).mono ?_
          rintro e w2 ⟨rfl, hb2⟩
          obtain ⟨q1, q2, q3, q4⟩ := HW.out _ hb2
          have HQ1 := Lib.hid q1
          have HQ3 := Lib.hid q3
          clear q1 q3 hb2
          go_wp2_with (at_builtin; refine wpList_append_own _ rfl _ _ 34 rfl w.heap.size 9 i0 (.string ⟨#[]⟩) 1 16 Tryz.underlying34 hi hz0 hz1 hz2 rfl (by decide) _ _ _ rfl (HQ1.out.alloc _) ⟨w2.heap.size, 0, none⟩ 1 1 [.string c] rfl rfl (one_new _ _ _ _ rfl) (one_str _) (by unfold maxLen; omega) (by omega) (by simp; omega) ?_; intro v' w5 hown5 hgr5 _)
          have hB5 : Below w.heap.size w w5 := ((HQ3.out.alloc HQ3.out.size _).grown hgr5 (by simp; omega) fun j e => ownBlock_le HQ1.out j e)
          have HO5 := Lib.hid hown5
          have HB5 := Lib.hid hB5
          clear hown5 hB5 hgr5
          go_roundw
          case rel => exact ⟨k + 1, by go_num, by omega, Lib.hid (by rw [HST.out, ← cellsS_app, List.length_append]; exact HO5.out), HB5⟩
          case measure => simp [RowKit.intOf]; omega
        | false =>
          rw [hb2] at hcall
          rw [hb2, if_neg (by decide), List.append_nil] at hst
          have HST := Lib.hid hst
          have HCALL := Lib.hid hcall
          clear hcall hst hLr hLa hb2 hcs
          have hbw : b < wr.heap.size := Nat.lt_of_lt_of_le hb HB.out.size
          go_wp2_with fail
          refine (HCALL.out _).mono ?_
          rintro e w2 ⟨rfl, hb2⟩
          have HB2 := Lib.hid hb2
          clear hb2
          go_wp2
          go_roundw
          case rel =>
            have h1 := below_alloc wr (.cells #[.string c, .string d] 37)
            have hB2 : Below wr.heap.size wr w2 := h1.trans (HB2.out.mono h1.size)
            exact ⟨k + 1, by go_num, by omega, Lib.hid (by rw [HST.out]; exact ownsRow_below HO.out hB2), Lib.hid (HB.out.trans (hB2.mono HB.out.size))⟩
          case measure => simp [RowKit.intOf]; omega
      · obtain rfl : k = n := by omega
        have hge : (k : Int) ≤ (k : Int) := Int.le_refl _
        go_wp2
        go_ret
        have h1 := HO.out
        rw [HN.out, List.take_length] at h1
        exact ⟨_, rfl, h1, HB.out⟩

end Go.Proofs.YtionnohajnnfmaaGreatDoor
