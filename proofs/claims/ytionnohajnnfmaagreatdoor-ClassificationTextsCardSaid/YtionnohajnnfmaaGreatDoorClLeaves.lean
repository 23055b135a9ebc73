/- The contract of classification.Leaves: the codes of a list that lie under another one, or all for "", and are the parent of none; for lists of up to 10^6 headings with texts of up to 10^6 bytes. -/
import Derived.Test.YtionnohajnnfmaaGreatDoorClChildren
import Derived.Test.YtionnohajnnfmaaGreatDoorMapSB
import Derived.StillTailTactics
namespace Go.Proofs.YtionnohajnnfmaaGreatDoor
open Go.RowKit Go.Lib Go.Proofs

/-- A text is in a list. -/
def hasB (x : ByteArray) (l : List ByteArray) : Bool := l.any fun y => decide (y = x)
theorem hasB_iff {x : ByteArray} {l : List ByteArray} : hasB x l = true ↔ x ∈ l := by unfold hasB; simp
theorem hasB_snoc (x y : ByteArray) (l : List ByteArray) : hasB x (l ++ [y]) = (hasB x l || decide (y = x)) := by unfold hasB; simp

/-- A code of a list is the parent of none. -/
def leftB (cs : List ByteArray) (c : ByteArray) : Bool := hasB c cs && !hasB c (cs.map parentB)

/-- The codes of a list that lie under top and are the parent of none. -/
def leavesOf (hs : List Head) (top : ByteArray) : List ByteArray := (codesOf hs).filter fun c => !(!leftB (codesOf hs) c || !coversB top c)

/-- The world of Leaves: a map in block m, its variable in block lb, top's in block tb, none of them in what was before. -/
structure LvInv (w1 : World) (m lb n : Nat) (f : ByteArray → Bool) (W : World) : Prop where
  map : MapSB W m n f
  box : Boxed W lb 110 (.map (some m))
  old : Below w1.heap.size w1 W
  hm : w1.heap.size ≤ m
  hl : w1.heap.size ≤ lb
  ne : m ≠ lb

theorem LvInv.step {w1 : World} {m lb n : Nat} {f : ByteArray → Bool} {A B : World} (h : LvInv w1 m lb n f A) (hb : Below A.heap.size A B) : LvInv w1 m lb n f B :=
  ⟨h.map.kept (grownBy_below (row := none) hb) (by simp), boxed_below h.box hb, h.old.trans (hb.mono h.old.size), h.hm, h.hl, h.ne⟩

theorem LvInv.turn {w1 : World} {m lb n n' : Nat} {f g : ByteArray → Bool} {A B : World} (h : LvInv w1 m lb n f A) (hm : MapSB B m n' g) (hg : A.grownBy B (some m)) : LvInv w1 m lb n' g B :=
  ⟨hm, h.box.kept hg (fun e => h.ne (by injection e with e; exact e.symm)), h.old.grown hg h.old.size fun j e => by cases e; exact h.hm, h.hm, h.hl, h.ne⟩

theorem LvInv.drew {w1 : World} {m lb n : Nat} {f : ByteArray → Bool} {A : World} (h : LvInv w1 m lb n f A) : LvInv w1 m lb n f A.drew := ⟨h.map, h.box, ⟨h.old.os, h.old.tape, h.old.output, h.old.size, h.old.block⟩, h.hm, h.hl, h.ne⟩

theorem hasB_take {cs : List ByteArray} {k : Nat} (hk : k < cs.length) (s : ByteArray) : (if s = cs[k] then true else hasB s (cs.take k)) = hasB s (cs.take (k + 1)) := by
  rw [List.take_succ_eq_append_getElem hk, hasB_snoc]
  by_cases h : s = cs[k]
  · rw [if_pos h, decide_eq_true h.symm, Bool.or_true]
  · rw [if_neg h, decide_eq_false (fun e => h e.symm), Bool.or_false]

theorem hasB_drop {cs : List ByteArray} {k : Nat} (hk : k < cs.length) (s : ByteArray) : (if s = parentB cs[k] then false else (hasB s cs && !hasB s ((cs.take k).map parentB))) = (hasB s cs && !hasB s ((cs.take (k + 1)).map parentB)) := by
  rw [List.take_succ_eq_append_getElem hk, List.map_append]
  show _ = (hasB s cs && !hasB s ((cs.take k).map parentB ++ [parentB cs[k]]))
  rw [hasB_snoc]
  by_cases h : s = parentB cs[k]
  · rw [if_pos h, decide_eq_true h.symm, Bool.or_true, Bool.not_true, Bool.and_false]
  · rw [if_neg h, decide_eq_false (fun e => h e.symm), Bool.or_false]

set_option maxHeartbeats 1000000 in
/-- The closure of Leaves. -/
theorem clLeavesC_any (c top : ByteArray) (f : ByteArray → Bool) (m lb tb n : Nat) (W : World) (hL : Lay W) (hm : MapSB W m n f) (hbox : W.cell? ⟨lb, 0, none⟩ = some (.map (some m))) (htop : W.cell? ⟨tb, 0, none⟩ = some (.string top)) (hc : c.size ≤ 1000000) (ht : top.size ≤ 1000000) :
    Calls Tryz.prog 85 #[.string c, .pointer (some ⟨lb, 0, none⟩), .pointer (some ⟨tb, 0, none⟩)] W fun e W' => e = .returned (.bool (!f c || !coversB top c)) ∧ Below W.heap.size W W' := by
  have hlook := hm.look c (by unfold maxLen; omega)
  have HC := Lib.hid (clcovers_any top c W hL ht hc)
  clear hm hL
  cases hf : f c with
  | false =>
    rw [hf] at hlook
    clear hf
    go_enter Tryz.func85, Tryz.ntmps85
    go_wp2
    go_ret
    exact ⟨rfl, Below.refl _ _⟩
  | true =>
    rw [hf] at hlook
    generalize coversB top c = r at *
    clear hf
    go_enter Tryz.func85, Tryz.ntmps85
    go_wp2_with fail
    refine (HC.out).mono ?_
    rintro e w1 ⟨rfl, hb1⟩
    go_wp2
    go_ret
    exact ⟨by simp, hb1⟩

set_option maxRecDepth 100000 in
set_option maxHeartbeats 4000000 in
theorem clLeaves_any (hs : List Head) (v : Value) (top : ByteArray) (w : World) (hL : Lay w) (hr : RowG w v hs.length 2 (cellsH hs)) (hlen : hs.length ≤ 1000000) (hok : HeadsOk hs) (ht : top.size ≤ 1000000) :
    Calls Tryz.prog 48 #[v, .string top] w (CodesPost w (leavesOf hs top)) := by
  have hcall := fun o => clcodes_any hs v (w.alloc o) (hL.below (below_alloc w o) (Nat.le_refl _)) (hr.below (below_alloc w o)) hlen hok
  have hsz := codesOf_sizes hok
  have hcl := codesOf_len hs
  have heq : leavesOf hs top = (codesOf hs).filter fun c => !(!leftB (codesOf hs) c || !coversB top c) := rfl
  rw [heq]
  generalize codesOf hs = cs at *
  have HC := Lib.hid hcall
  have HSZ := Lib.hid hsz
  have HL := Lib.hid hL
  clear hcall hsz heq hL hr hok
  have hmm := @run_makeMap Tryz.prog
  go_enter Tryz.func48, Tryz.ntmps48
  go_wp2_with fail
  refine (HC.out _).mono ?_
  rintro e w1 ⟨u, rfl, ho, hb⟩
  have hbox : w1.cell? ⟨w.heap.size, 0, none⟩ = some (.string top) := by
    rw [hb.cell (p := ⟨w.heap.size, 0, none⟩) (by simp)]
    simp
  have hown := ho.lt
  obtain ⟨_, ao, cap, rfl, hcap, hcells⟩ := RowG.owns ho
  have HBOX := Lib.hid hbox
  have HO := Lib.hid ho
  have HB := Lib.hid hb
  have HOWN := Lib.hid hown
  have HCE := Lib.hid hcells
  obtain ⟨n, hn⟩ : ∃ n, n = cs.length := ⟨_, rfl⟩
  rw [← hn] at HO HCE hcap hcl ⊢
  have HN := Lib.hid hn
  have hn1 : n ≤ 1000000 := by omega
  clear hbox hb ho hown hcells hn hcl
  have h0 : LvInv w1 w1.heap.size (w1.heap.size + 1) 0 (fun s => hasB s (cs.take 0)) ((w1.alloc (.map #[] 0)).alloc (.cells #[.map (some w1.heap.size)] 110)) := by
    have hb1 := Boxed.new (w1.alloc (.map #[] 0)) 110 (.map (some w1.heap.size))
    rw [show (w1.alloc (.map #[] 0)).heap.size = w1.heap.size + 1 by simp] at hb1
    exact ⟨((MapSB.made w1).kept (grownBy_below (row := none) (below_alloc _ _)) (by simp)).congr (by simp [hasB]), hb1, ((Below.refl _ _).alloc (Nat.le_refl _) _).alloc (by simp) _, Nat.le_refl _, by omega, by omega⟩
  have H0 := Lib.hid h0
  clear h0
  go_wp2_with fail
  go_loopw [16] (fun i wr => ∃ k : Nat, i = .int .i64 k ∧ k ≤ n ∧ Hid (LvInv w1 w1.heap.size (w1.heap.size + 1) k (fun s => hasB s (cs.take k)) wr)) (fun i _ => n - (RowKit.intOf i).toNat)
  case atStart => exact ⟨0, rfl, by omega, H0⟩
  case round =>
    obtain ⟨k, rfl, hkn, HI⟩ := hrel
    have hbx := HI.out.box.cell
    by_cases hlt : k < n
    · rcases HCE.out with h | ⟨b, o, rfl, hbw, hcell⟩
      · omega
      have hlx : k < cs.length := by rw [← HN.out]; exact hlt
      have hck : wr.cell? ⟨b, o + k, none⟩ = some (.string cs[k]) := by
        rw [HI.out.old.cell (by exact hbw), hcell k (by omega), cellsS_get cs k hlx]
      have hcsz := HSZ.out cs[k] (List.getElem_mem hlx)
      have hdt := hasB_take hlx
      have HM := Lib.hid HI.out.map
      generalize cs[k] = c at hck hcsz hdt
      have HDT := Lib.hid hdt
      clear hdt hcell hbw
      go_wp2_with (at_mapUpdate; refine wpList_store_SB rfl _ _ _ rfl w1.heap.size k _ rfl HM.out (by unfold maxLen; omega) c true rfl rfl (by unfold maxLen; omega) ?_; intro w2 hm2 hg2)
      have HM2 := Lib.hid (HI.out.turn hm2 hg2)
      clear hm2 hg2
      go_roundw
      case rel => exact ⟨k + 1, by go_num, by omega, Lib.hid ⟨HM2.out.map.congr HDT.out, HM2.out.box, HM2.out.old, HM2.out.hm, HM2.out.hl, HM2.out.ne⟩⟩
      case measure => simp [RowKit.intOf]; omega
    · obtain rfl : k = n := by omega
      have hge : (k : Int) ≤ (k : Int) := Int.le_refl _
      have h1 : LvInv w1 w1.heap.size (w1.heap.size + 1) k (fun s => hasB s cs && !hasB s ((cs.take 0).map parentB)) wr := by
        have := HI.out
        exact ⟨this.map.congr (fun s => by rw [List.take_of_length_le (by rw [HN.out]; exact Nat.le_refl _)]; simp [hasB]), this.box, this.old, this.hm, this.hl, this.ne⟩
      have H1 := Lib.hid h1
      clear h1 hbx HI
      go_wp2_with fail
      go_loopw [25] (fun i wr => ∃ j : Nat, i = .int .i64 j ∧ j ≤ k ∧ Hid (LvInv w1 w1.heap.size (w1.heap.size + 1) k (fun s => hasB s cs && !hasB s ((cs.take j).map parentB)) wr)) (fun i _ => k - (RowKit.intOf i).toNat)
      case atStart => exact ⟨0, rfl, by omega, H1⟩
      case round =>
        obtain ⟨j, rfl, hjk, HI⟩ := hrel
        by_cases hlt : j < k
        · rcases HCE.out with h | ⟨b, o, rfl, hbw, hcell⟩
          · omega
          have hlx : j < cs.length := by rw [← HN.out]; exact hlt
          have hck : wr.cell? ⟨b, o + j, none⟩ = some (.string cs[j]) := by
            rw [HI.out.old.cell (by exact hbw), hcell j (by omega), cellsS_get cs j hlx]
          have hcsz := HSZ.out cs[j] (List.getElem_mem hlx)
          have hdt := hasB_drop hlx
          have hbx := HI.out.box.cell
          generalize cs[j] = c at hck hcsz hdt
          have HDT := Lib.hid hdt
          have hpar : ∀ W, Calls Tryz.prog 44 #[.string c] W fun e w'' => e = .returned (.string (parentB c)) ∧ w'' = W := fun W => (clparent_any c W hcsz).mono fun _ _ h => ⟨h.1, h.2.symm⟩
          have HPAR := Lib.hid hpar
          have hpz := parentB_size c
          clear hdt hcell hbw hpar
          go_wp2_with fail
          refine wp_region_still_tail 3 (by kernel_rfl) (by kernel_rfl) ?_
          simp only [List.take_succ_cons, List.take_zero, List.drop_succ_cons, List.drop_zero]
          still_step
          still_step
          still_call (HPAR.out _)
          refine wpStill_nil ?_
          change wpList _ _ _ _ _ wr.drew
          have HD := Lib.hid HI.out.drew
          have HDM := Lib.hid HD.out.map
          go_wp2_with (at_delete; refine wpList_delete_SB rfl _ _ rfl w1.heap.size k _ rfl HDM.out (parentB c) rfl (by unfold maxLen; omega) ?_; intro w2 hm2 hg2)
          have HM2 := Lib.hid (HD.out.turn hm2 hg2)
          clear hm2 hg2
          go_roundw
          case rel => exact ⟨j + 1, by go_num, by omega, Lib.hid ⟨HM2.out.map.congr HDT.out, HM2.out.box, HM2.out.old, HM2.out.hm, HM2.out.hl, HM2.out.ne⟩⟩
          case measure => simp [RowKit.intOf]; omega
        · obtain rfl : j = k := by omega
          have hge2 : (j : Int) ≤ (j : Int) := Int.le_refl _
          have hI := HI.out
          have hmap : MapSB wr w1.heap.size j (leftB cs) := hI.map.congr fun s => by rw [List.take_of_length_le (by rw [HN.out]; exact Nat.le_refl _)]; rfl
          have hB2 : Below (w.alloc (.cells #[.string top] 9)).heap.size (w.alloc (.cells #[.string top] 9)) wr := HB.out.trans (hI.old.mono HB.out.size)
          have hB1 : Below w.heap.size w wr := (below_alloc w _).trans (hB2.mono (below_alloc w _).size)
          have hrow : wr.ownsRow (w.alloc (.cells #[.string top] 9)).heap.size 9 1 (.slice ao j cap) cs.length (cellsS cs) := by rw [← HN.out]; exact ownsRow_below HO.out hI.old
          have htb : wr.cell? ⟨w.heap.size, 0, none⟩ = some (.string top) := (hI.old.cell (p := ⟨w.heap.size, 0, none⟩) (cell_lt HBOX.out)).trans HBOX.out
          have hblk : ∀ r, (Value.slice ao j cap).ownBlock = some r → w.heap.size < r ∧ r < w1.heap.size := fun r hr => by
            have := HOWN.out r (by rw [← HN.out]; exact hr)
            simp at this
            exact ⟨by omega, this.2⟩
          have hdel := slDeleteS_any 85 #[.pointer (some ⟨w1.heap.size + 1, 0, none⟩), .pointer (some ⟨w.heap.size, 0, none⟩)] (enters_of Tryz.func85 (by kernel_rfl) rfl) (fun c => !leftB cs c || !coversB top c) cs _ _ wr hrow (by rw [← HN.out]; omega) (fun x hx W hW =>
            clLeavesC_any x top (leftB cs) w1.heap.size (w1.heap.size + 1) w.heap.size j W
              (HL.out.keep fun g hg => by
                have hgl := HL.out.lt g hg
                rw [hW.block g (Nat.lt_of_lt_of_le hgl hB1.size) (fun e => by have := hblk g e.symm; omega)]
                exact hB1.block g hgl)
              (hmap.kept hW (fun e => by have := hblk _ e.symm; omega))
              ((hI.box.kept hW (fun e => by have := hblk _ e.symm; omega)).cell)
              (by rw [World.cell?_of_block (w := wr) (hW.block w.heap.size (cell_lt htb) (fun e => by have := hblk w.heap.size e.symm; omega))]; exact htb)
              (HSZ.out x hx) ht)
          have HDEL := Lib.hid hdel
          have HB1 := Lib.hid hB1
          have HBLK := Lib.hid hblk
          clear hdel hB1 hblk htb hrow hB2 hmap hI HI hmm
          go_wp2_with fail
          refine (HDEL.out).mono ?_
          rintro e w2 ⟨u', rfl, ho2, hg2⟩
          have HO2 := Lib.hid (ownsRow_mono ho2 (show w.heap.size ≤ _ by simp))
          have HB2 := Lib.hid (HB1.out.grown hg2 HB1.out.size fun j e => by have := HBLK.out j e; omega)
          clear ho2 hg2
          go_wp2
          go_ret
          exact ⟨_, rfl, HO2.out, HB2.out⟩

end Go.Proofs.YtionnohajnnfmaaGreatDoor
