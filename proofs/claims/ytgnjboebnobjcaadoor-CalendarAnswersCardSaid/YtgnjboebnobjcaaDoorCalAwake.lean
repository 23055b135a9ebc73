/- The contract of treasurylaw02.awake: the example of the chapter holds, whatever the world; nothing that was there turns. -/
import Derived.Test.YtgnjboebnobjcaaDoorCalT
namespace Go.Proofs.YtgnjboebnobjcaaDoor
open Go.RowKit Go.Lib Go.Proofs

theorem awake_text : textB 1 1 6 = ⟨#[49, 45, 48, 49, 45, 48, 54]⟩ := by
  unfold textB decB
  rw [dec_one 1 (by omega)]
  rfl

set_option maxHeartbeats 1000000 in
theorem awake_any (w : World) : Calls Tryd.prog 7 #[] w fun e w' => e = .returned (.bool true) ∧ Below w.heap.size w w' := by
  have hd := cDate_yes 365 w (by decide)
  have hn := fun w => cNext_any 5 w
  have ht := fun w => cText_any 365 1 1 6 w (by omega) rfl rfl rfl (itoaAt_small w 1 (by omega))
  rw [awake_text] at ht
  have e1 : (if dayB 5 = true then (checkedI (nextI 5)).1 else 0) = 7 := by decide
  have e2 : (if dayB 5 = true then (checkedI (nextI 5)).2 else 2) = 0 := by decide
  rw [e1, e2] at hn
  rw [show (365 : Int) / 360 = 1 by decide, show (365 : Int) % 360 / 30 + 1 = 1 by decide, show (365 : Int) % 30 + 1 = 6 by decide] at hd
  have HD := Lib.hid hd
  have HN := Lib.hid hn
  have HT := Lib.hid ht
  clear hd hn ht e1 e2
  go_enter Tryd.func7, Tryd.ntmps7
  go_wp2_with fail
  refine (HD.out).mono ?_
  rintro e w1 ⟨rfl, hb1⟩
  go_wp2_with fail
  refine (HN.out _).mono ?_
  rintro e w2 ⟨rfl, rfl⟩
  go_wp2_with fail
  refine (HT.out _).mono ?_
  rintro e w2 ⟨rfl, hb2⟩
  go_wp2_with fail
  go_ret
  exact ⟨rfl, hb1.trans (hb2.mono hb1.size)⟩

end Go.Proofs.YtgnjboebnobjcaaDoor
