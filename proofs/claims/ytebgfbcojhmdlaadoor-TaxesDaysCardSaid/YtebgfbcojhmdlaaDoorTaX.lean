/- A tax; of no function of the program; no condition. -/
import Derived.Test.YtebgfbcojhmdlaaDoorRowL
set_option linter.unusedSimpArgs false
set_option linter.unusedVariables false
namespace Go.Proofs.YtebgfbcojhmdlaaDoor
open Go.RowKit Go.Lib Go.Proofs

structure Tx where
  code : ByteArray
  payer : Int
  base : Int
  num : Int
  den : Int
  fst : Int
  evr : Int
  tms : Int
def txC (t : Tx) : List Value := [.string t.code, .int .i64 t.payer, .int .i64 t.base, .int .i64 t.num, .int .i64 t.den, .int .i64 t.fst, .int .i64 t.evr, .int .i64 t.tms]
theorem txF : Fields txC 8 := ⟨fun _ => rfl, fun _ u hu => by simp only [txC, List.mem_cons, List.mem_nil_iff, or_false] at hu; rcases hu with rfl | rfl | rfl | rfl | rfl | rfl | rfl | rfl <;> rfl, by decide⟩

end Go.Proofs.YtebgfbcojhmdlaaDoor
