/- The contract of classification.Children: the codes of a list of which a code is the parent; for lists of up to 10^6 headings with texts of up to 10^6 bytes. -/
import Derived.Test.YtionnohajnnfmaaGreatDoorClTree
namespace Go.Proofs.YtionnohajnnfmaaGreatDoor
open Go.RowKit Go.Lib Go.Proofs

set_option maxHeartbeats 1000000 in
theorem clChildrenC_any (c code : ByteArray) (b : Nat) (w : World) (hc : w.cell? ⟨b, 0, none⟩ = some (.string code)) (hs : c.size ≤ 1000000) :
    Calls Tryz.prog 43 #[.string c, .pointer (some ⟨b, 0, none⟩)] w fun e w' => e = .returned (.bool (!decide (parentB c = code))) ∧ Below w.heap.size w w' := by
  have HP := Lib.hid (fun W => clparent_any c W hs)
  by_cases he : parentB c = code
  · have h1 := strEq_true he
    rw [decide_eq_true he]
    generalize parentB c = q at *
    clear he
    go_enter Tryz.func43, Tryz.ntmps43
    go_wp2
    go_quiet ((go_at_call 44; exact Calls.quiet_of_same ((HP.out _).mono fun e w' h => ⟨h.1, h.2.symm⟩)))
    go_wp2
    go_ret
    exact ⟨by simp, below_drewN (Below.refl _ _) _⟩
  · have h1 := strEq_false he
    rw [decide_eq_false he]
    generalize parentB c = q at *
    clear he
    go_enter Tryz.func43, Tryz.ntmps43
    go_wp2
    go_quiet ((go_at_call 44; exact Calls.quiet_of_same ((HP.out _).mono fun e w' h => ⟨h.1, h.2.symm⟩)))
    go_wp2
    go_ret
    exact ⟨by simp, below_drewN (Below.refl _ _) _⟩

/-- The codes of a list of which a code is the parent. -/
def childrenOf (hs : List Head) (code : ByteArray) : List ByteArray := (codesOf hs).filter fun c => !(!decide (parentB c = code))

theorem codesOf_sizes {hs : List Head} (hok : HeadsOk hs) : ∀ c ∈ codesOf hs, c.size ≤ 1000000 := by
  intro c hc
  obtain ⟨h, hh, rfl⟩ := List.mem_map.1 (List.mem_filter.1 hc).1
  exact (hok h hh).1

theorem ownBlock_cases {w : World} {base n size : Nat} {e : TypeId} {v : Value} {xs : List Value} (h : w.ownsRow base e size v n xs) : ∀ r, v.ownBlock = some r → base ≤ r := fun r hr => ownBlock_le h r hr

set_option maxRecDepth 100000 in
set_option maxHeartbeats 2000000 in
theorem clChildren_any (hs : List Head) (v : Value) (code : ByteArray) (w : World) (hL : Lay w) (hr : RowG w v hs.length 2 (cellsH hs)) (hlen : hs.length ≤ 1000000) (hok : HeadsOk hs) :
    Calls Tryz.prog 15 #[v, .string code] w (CodesPost w (childrenOf hs code)) := by
  have hcall := fun o => clcodes_any hs v (w.alloc o) (hL.below (below_alloc w o) (Nat.le_refl _)) (hr.below (below_alloc w o)) hlen hok
  have hsz := codesOf_sizes hok
  have hcl := codesOf_len hs
  have heq : childrenOf hs code = (codesOf hs).filter fun c => !(!decide (parentB c = code)) := rfl
  rw [heq]
  generalize codesOf hs = cs at *
  have HC := Lib.hid hcall
  have HSZ := Lib.hid hsz
  clear hcall hsz heq hL hr hok
  go_enter Tryz.func15, Tryz.ntmps15
  go_wp2_with fail
  refine (HC.out _).mono ?_
  rintro e w1 ⟨u, rfl, ho, hb⟩
  have hbox : w1.cell? ⟨w.heap.size, 0, none⟩ = some (.string code) := by
    rw [hb.cell (p := ⟨w.heap.size, 0, none⟩) (by simp)]
    simp
  have hlt := cell_lt hbox
  have hown := ownBlock_cases ho
  have hdel := slDeleteS_any 43 #[.pointer (some ⟨w.heap.size, 0, none⟩)] (enters_of Tryz.func43 (by kernel_rfl) rfl) (fun c => !decide (parentB c = code)) cs _ u w1 ho (by omega) (fun x hx W hW =>
    clChildrenC_any x code w.heap.size W (by
      rw [World.cell?_of_block (w := w1) (hW.block _ hlt (fun e => by have := hown _ e.symm; simp at this; omega))]
      exact hbox) (HSZ.out x hx))
  have HDEL := Lib.hid hdel
  have HB := Lib.hid hb
  have HOWN := Lib.hid hown
  clear hdel hb hown ho hbox
  go_wp2_with fail
  refine (HDEL.out).mono ?_
  rintro e w2 ⟨u', rfl, ho2, hg2⟩
  have h1 := below_alloc w (.cells #[.string code] 9)
  have hB1 := h1.trans (HB.out.mono h1.size)
  have HO2 := Lib.hid (ownsRow_mono ho2 (show w.heap.size ≤ _ by simp))
  have HB2 := Lib.hid (hB1.grown hg2 hB1.size fun j e => by have := HOWN.out j e; simp at this; omega)
  clear ho2 hg2 h1 hB1
  go_wp2
  go_ret
  exact ⟨_, rfl, HO2.out, HB2.out⟩

end Go.Proofs.YtionnohajnnfmaaGreatDoor
