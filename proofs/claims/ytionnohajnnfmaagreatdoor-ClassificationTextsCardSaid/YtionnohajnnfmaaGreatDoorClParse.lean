/- The contract of classification.Parse on the text of a valid list: this list, and no error; for texts of up to 12000 bytes. -/
import Derived.Test.YtionnohajnnfmaaGreatDoorClRead
namespace Go.Proofs.YtionnohajnnfmaaGreatDoor
open Go.RowKit Go.Lib Go.Proofs

/-- What Parse hands back. -/
def ParsePost (w : World) (hs : List Head) (e : Ending) (w' : World) : Prop :=
  ∃ v, e = .returned (.tuple #[v, .int .i64 0, .int .i64 0]) ∧ w'.ownsRow w.heap.size 37 2 v hs.length (cellsH hs) ∧ Below w.heap.size w w'

set_option maxHeartbeats 1000000 in
theorem clParse_any (hs : List Head) (w : World) (hL : Lay w) (hc : ∀ h ∈ hs, Clean h) (hsm : ∀ h ∈ hs, h.1.size + h.2.size ≤ 1000) (hlen : hs.length ≤ 60) (hz : (textB hs).size ≤ 12000) (hf : faultOf hs = (0, 0)) :
    Calls Tryz.prog 10 #[.string (textB hs)] w (ParsePost w hs) := by
  have HR := Lib.hid (clreadLines_any hs w hc hsm (by omega) (by omega))
  have HF : Hid (∀ v W, Below w.heap.size w W → RowG W v hs.length 2 (cellsH hs) → Calls Tryz.prog 38 #[v] W fun e w' => e = .returned (.tuple #[.int .i64 0, .int .i64 0]) ∧ Below W.heap.size W w') := Lib.hid fun v W hW hr => by
    have := clfault_any hs v W (hL.below hW (Nat.le_refl _)) hr (by omega) (fun h hh => by have := hsm h hh; omega)
    rw [hf] at this
    exact this
  obtain ⟨s, hs0⟩ : ∃ s, s = textB hs := ⟨_, rfl⟩
  rw [← hs0] at HR hz ⊢
  have hz1 : (s.size : Int) ≤ 12000 := by omega
  clear hc hsm hs0 hf hL hz
  go_enter Tryz.func10, Tryz.ntmps10
  go_wp2_with fail
  refine (HR.out).mono ?_
  rintro e w1 ⟨v, rfl, ho, hb⟩
  obtain ⟨ao, cap, rfl, _, _⟩ := owns_gen ho
  have HO := Lib.hid ho
  have HB := Lib.hid hb
  have HFF := Lib.hid (HF.out _ w1 hb (RowG.owns ho))
  clear ho hb
  go_wp2_with fail
  refine (HFF.out).mono ?_
  rintro e w2 ⟨rfl, hb2⟩
  go_wp2
  go_ret3
  exact ⟨_, rfl, ownsRow_below HO.out hb2, HB.out.trans (hb2.mono HB.out.size)⟩

end Go.Proofs.YtionnohajnnfmaaGreatDoor
