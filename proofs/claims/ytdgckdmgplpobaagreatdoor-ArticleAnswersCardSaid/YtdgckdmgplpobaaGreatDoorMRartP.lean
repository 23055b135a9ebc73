/- The contract of the article's reference's Parse: the article with a text, ErrSyntax for any other text; as the program's; for texts of up to 10^6 bytes. -/
import Derived.Test.YtdgckdmgplpobaaGreatDoorMRartPa
import Derived.Test.YtdgckdmgplpobaaGreatDoorMRartPb
import Derived.Test.YtdgckdmgplpobaaGreatDoorMRartPc
import Derived.Test.YtdgckdmgplpobaaGreatDoorMRartPd
import Derived.Test.YtdgckdmgplpobaaGreatDoorMRartPe
import Derived.Test.YtdgckdmgplpobaaGreatDoorMRartPf
set_option linter.unusedSimpArgs false
set_option linter.unusedVariables false
namespace Go.Proofs.YtdgckdmgplpobaaGreatDoor
open Go.RowKit Go.Lib Go.Proofs

theorem rarParse_any (t : ByteArray) (w : World) (hL : Lay w) (hs : t.size ≤ 1000000) :
    Calls Tryz.prog 19 #[.string t] w (ParseP w (parseA t)) := by
  have h : kindTo (firstW t) 11 ≤ 10 := kindTo_lt (firstW t) 10
  rcases (by omega : (kindTo (firstW t) 11 = 2) ∨ (kindTo (firstW t) 11 = 0 ∨ kindTo (firstW t) 11 = 1) ∨ (kindTo (firstW t) 11 = 3 ∨ kindTo (firstW t) 11 = 4) ∨ (kindTo (firstW t) 11 = 5 ∨ kindTo (firstW t) 11 = 6 ∨ kindTo (firstW t) 11 = 7) ∨ (kindTo (firstW t) 11 = 8 ∨ kindTo (firstW t) 11 = 9) ∨ (kindTo (firstW t) 11 = 10)) with h | h | h | h | h | h
  · exact rarParse_a t w hL hs h
  · exact rarParse_b t w hL hs h
  · exact rarParse_c t w hL hs h
  · exact rarParse_d t w hL hs h
  · exact rarParse_e t w hL hs h
  · exact rarParse_f t w hL hs h

end Go.Proofs.YtdgckdmgplpobaaGreatDoor
