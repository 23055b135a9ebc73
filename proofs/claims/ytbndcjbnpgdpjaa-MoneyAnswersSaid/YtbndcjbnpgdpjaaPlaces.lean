/- What slices.SortStableFunc does to a row of places: it brings them into the order of the rests; for at most 1,000,000,000 places. -/
import Derived.Test.YtbndcjbnpgdpjaaStable
import Derived.Test.YtbndcjbnpgdpjaaMem
namespace Go.Proofs.Ytbndcjbnpgdpjaa
open Go.RowKit Go.Sort Go.Shelf Go.Lib Go.Proofs

/-- What SortStableFunc does to a row of places that lies in the call's own memory: it brings them into the order of the rests. -/
theorem sort_places (rs : List Int) (m : Nat) (hl : rs.length = m + 1) (hm : rs.length ≤ 1000000000) (B bk cap P base : Nat) (W : World) (hBb : B < base) (hkb : bk < base)
    (hB : W.cell? ⟨B, 0, none⟩ = some (.slice (some ⟨bk, 0, none⟩) rs.length cap)) (hc : ∀ i, i < rs.length → W.cell? ⟨bk, i, none⟩ = some (.int .i64 (rs.getD i 0)))
    (ho : W.ownsRow base 3 1 (.slice (some ⟨P, 0, none⟩) rs.length rs.length) rs.length (natCells (List.range rs.length))) :
    Calls Try.prog 34 #[.slice (some ⟨P, 0, none⟩) rs.length rs.length, .func (.func 35) #[] #[.pointer (some ⟨B, 0, none⟩)]] W fun e w' => e = .returned (.tuple #[]) ∧ ∃ o, IsOrder rs o ∧ w'.ownsRow base 3 1 (.slice (some ⟨P, 0, none⟩) rs.length rs.length) rs.length (natCells o) ∧ W.grownBy w' (some P) := by
  have hlt := ho.lt P rfl
  have hs : (places m).size = rs.length := by rw [places_size, hl]
  have ho' : W.ownsRow base 3 1 (.slice (some ⟨P, 0, none⟩) (places m).size rs.length) (places m).size ((places m).toList.map (encP m)) := by
    rw [places_list, hs, ← hl]; exact ho
  have hH : Holds (encP m) W P 0 (places m) := holds_owns ho'
  have eg : ∀ args w, (callFunc 35 args).run Try.prog w = .ok (.enter 35 args) w := enters_of Try.func35 (by kernel_rfl) rfl
  have hcmp := cmpP m rs hl B bk cap P 0 W (by omega) (by omega) (by omega) (by omega) (by omega) hB hc (places m).size
  have hag : Agree (ltOf (cfP rs)) (befF (m := m) rs) (places m) (places m).size := fun p q hpq hq => by
    rw [places_size] at hq
    exact ltOf_cfP rs _ _ (by rw [places_get _ _ (by omega), places_get _ _ (by omega)]; exact hpq)
  have hcon := SortStable_any (encP m) (cfP rs) (befF rs) (befF_swo rs) 35 #[.pointer (some ⟨B, 0, none⟩)] P 0 rs.length (places m) W eg hcmp ⟨encP_one m, hH, by omega⟩ (by rw [hs]; exact hm) hag
  rw [hs] at hcon
  refine hcon.mono fun e w' ⟨he, d', hp, hso, hsw⟩ => ⟨he, ?_⟩
  rw [hl] at hp hso
  obtain ⟨h1, h2⟩ := sw_owns hsw (hs ▸ ho') (by rw [hp.1, hs])
  exact ⟨_, isOrder_of hl hp hso, by rw [← natCells_enc]; exact h1, h2⟩

end Go.Proofs.Ytbndcjbnpgdpjaa
