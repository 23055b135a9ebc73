/- Numbers of entries: an entry with another number, or an earlier day, is refused; entries that were posted stay: for every tape. -/
import Derived.Test.YtoelidndnajedaaAcSn
import Derived.Test.YtoelidndnajedaaAcQ
import Derived.IntWalk
set_option linter.unusedSimpArgs false
set_option linter.unusedVariables false
namespace Go.Proofs.Ytoelidndnajedaa
open Go.RowKit Go.Lib Go.Proofs

theorem ents_prefix {w : World} {ao : Option Addr} {n k cap : Nat} {l m : List Ent} (h : EntsAt w (.slice ao n cap) (l ++ m)) (hk : k = l.length) : EntsAt w (.slice ao k cap) l := by
  subst hk
  obtain ⟨h1, ao', cap', h2, h3, h4⟩ := h
  injection h2 with e1 e2 e3
  subst e1 e3
  refine ⟨cellsN_len l, ao, cap, rfl, by simp at h3; omega, ?_⟩
  rcases h4 with h4 | ⟨b, o, e, hb, hc⟩
  · left; simp at h4; simp [h4.1]
  · right
    refine ⟨b, o, e, hb, fun j hj => ?_⟩
    have hj2 : j < (l ++ m).length * 6 := by simp [Nat.add_mul]; omega
    rw [hc j hj2, cellsN_app, List.getElem?_append_left (by rw [cellsN_len]; exact hj)]

end Go.Proofs.Ytoelidndnajedaa
