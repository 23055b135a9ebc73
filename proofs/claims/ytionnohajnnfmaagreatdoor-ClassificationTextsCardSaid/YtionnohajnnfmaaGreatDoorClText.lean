/- The contract of classification.Text for a valid list: a line for each heading; for lists of up to 60 headings. -/
import Derived.Test.YtionnohajnnfmaaGreatDoorTxM
import Derived.Test.YtionnohajnnfmaaGreatDoorShelfT
import Derived.Test.YtionnohajnnfmaaGreatDoorBuilder
namespace Go.Proofs.YtionnohajnnfmaaGreatDoor
open Go.RowKit Go.Lib Go.Proofs

/-- A builder stays one where a block is new. -/
theorem IsB.alloc {T e : TypeId} {B b : Nat} {bs : List Value} {w : World} (h : Lib.IsBuilder T e B b bs w) (o : Obj) : Lib.IsBuilder T e B b bs (w.alloc o) := by
  have one : ∀ {p}, Lib.BuilderAt T e B b p bs w → Lib.BuilderAt T e B b p bs (w.alloc o) := fun {p} h => by
    have hlt := Lib.BuilderAt.lt h
    obtain ⟨hB, v, hb, hown, hne⟩ := h
    exact ⟨hB, v, (Below.heap_alloc _ _ _ hlt).trans hb, hown.alloc _, hne⟩
  rcases h with h | h
  · exact .inl (one h)
  · exact .inr (one h)

theorem below_al {w W : World} (h : Below w.heap.size w W) (o : Obj) : Below w.heap.size w (W.alloc o) := h.trans ((below_alloc W o).mono h.size)

theorem line_text (c d : ByteArray) : c ++ ⟨#[32]⟩ ++ d ++ ⟨#[10]⟩ = lineB (c, d) := bytes_ext (by
  unfold lineB lineL
  rw [txt_list]
  simp [ByteArray.data_append])

theorem strCells_bytes (l : List UInt8) (s : ByteArray) : Lib.byteCells l ++ Lib.strCells s = Lib.byteCells (l ++ s.data.toList) := by
  simp [Lib.byteCells, Lib.strCells]

set_option maxRecDepth 100000 in
set_option maxHeartbeats 2000000 in
theorem clText_any (hs : List Head) (v : Value) (w : World) (hL : Lay w) (hr : RowG w v hs.length 2 (cellsH hs)) (hlen : hs.length ≤ 60) (hf : faultOf hs = (0, 0)) (hsm : ∀ h ∈ hs, h.1.size + h.2.size ≤ 1000) :
    Calls Tryz.prog 11 #[v] w fun e w' => e = .returned (.string (textB hs)) ∧ Below w.heap.size w w' := by
  have hok : HeadsOk hs := fun h hh => by have := hsm h hh; omega
  have hv := clValid_any hs v w hL hr (by omega) hok
  rw [hf] at hv
  have hrow := hr
  obtain ⟨h0, ao, cap, rfl, hcap, hc⟩ := hr
  obtain ⟨n, hn⟩ : ∃ n, n = hs.length := ⟨_, rfl⟩
  rw [← hn] at hv hcap hlen ⊢
  have HV := Lib.hid hv
  have HN := Lib.hid hn
  have HSM := Lib.hid hsm
  have HC := Lib.hid hc
  clear h0 hn hv hsm hc hrow hok hf hL
  go_enter Tryz.func11, Tryz.ntmps11
  go_wp2_with fail
  refine (HV.out).mono ?_
  rintro e w1 ⟨rfl, b1⟩
  have HB0 := Lib.hid (Lib.fresh_isBuilder 69 5 w1)
  have HB1 := Lib.hid b1
  clear b1 HV
  go_wp2_with fail
  go_loopw [11] (fun i wr => ∃ k : Nat, i = .int .i64 k ∧ k ≤ n ∧ Hid (Lib.IsBuilder 69 5 w1.heap.size w1.heap.size (Lib.byteCells (textL (hs.take k))) wr) ∧ Hid (Below w1.heap.size w1 wr)) (fun i _ => n - (RowKit.intOf i).toNat)
  case atStart => exact ⟨0, rfl, by omega, HB0, Lib.hid (below_alloc _ _)⟩
  case round =>
    obtain ⟨k, rfl, hkn, HI, HB⟩ := hrel
    by_cases hlt : k < n
    · have hks : k < hs.length := by rw [← HN.out]; exact hlt
      rcases HC.out with hc | ⟨b, o, rfl, hb, hc⟩
      · rw [← HN.out] at hc; omega
      have hbw : ∀ j, wr.cell? ⟨b, j, none⟩ = w.cell? ⟨b, j, none⟩ := fun j => by
        rw [HB.out.cell (by have := HB1.out.size; exact Nat.lt_of_lt_of_le hb this), HB1.out.cell (by exact hb)]
      obtain ⟨g1, g2⟩ := row_head hc hks
      rw [← hbw] at g1 g2
      have hsz := HSM.out hs[k] (List.getElem_mem hks)
      have hst := textL_snoc hks
      have hlt2 := textL_len 1000 (hs.take k) fun x hx => HSM.out x (List.mem_of_mem_take hx)
      have hlt3 : (hs.take k).length ≤ 60 := Nat.le_trans (List.length_take_le _ _) (by omega)
      have hlt4 : (textL (hs.take k)).length ≤ 60 * 1002 := Nat.le_trans hlt2 (Nat.mul_le_mul_right _ hlt3)
      obtain ⟨x, hx⟩ : ∃ x, x = hs[k] := ⟨_, rfl⟩
      rw [← hx] at g1 g2 hsz hst
      obtain ⟨c, d⟩ := x
      simp only at g1 g2 hsz
      have hlz : (lineB (c, d)).size ≤ 1002 := by
        have e : (lineL (c, d)).length = c.size + d.size + 2 := by rw [size_list, size_list]; simp [lineL]; omega
        rw [lineB, txt_size, e]; omega
      have hcat := line_text c d
      have hws := writeString_any w1.heap.size w1.heap.size (Lib.byteCells (textL (hs.take k))) (lineB (c, d)) (wr.alloc (.cells #[.string c, .string d] 37)) (IsB.alloc HI.out _) (by rw [Lib.byteCells_length]; omega) (by have := HB.out.size; simp; omega)
      rw [strCells_bytes, show (lineB (c, d)).data.toList = lineL (c, d) by rw [lineB, txt_list], ← hst] at hws
      have HWS := Lib.hid hws
      have HCAT := Lib.hid hcat
      have HST := Lib.hid hst
      have hz1 : ¬ 9223372036854775807 < c.size + 1 := by omega
      have hz2 : ¬ 9223372036854775807 < c.size + 1 + d.size := by omega
      have hz3 : ¬ 9223372036854775807 < c.size + 1 + d.size + 1 := by omega
      clear hws hcat hst hlt2 hlt3 hlt4 hx hbw hc
      go_wp2_with fail
      rw [HCAT.out]
      refine (HWS.out).mono ?_
      rintro e w2 ⟨rfl, hi2, hb2⟩
      have HI2 := Lib.hid hi2
      have HB2 := Lib.hid ((below_al HB.out (.cells #[.string c, .string d] 37)).trans hb2)
      clear hi2 hb2
      go_wp2_with fail
      go_roundw
      case rel => exact ⟨k + 1, by first | rfl | go_num, by omega, HI2, HB2⟩
      case measure => simp [RowKit.intOf]; omega
    · obtain rfl : k = n := by omega
      have hge : (k : Int) ≤ (k : Int) := Int.le_refl _
      have htk : hs.take k = hs := by rw [HN.out]; exact List.take_length
      rw [htk] at HI
      have hstr := Tryz.Builder_String_any w1.heap.size w1.heap.size (textL hs) wr HI.out HB.out.size
      have HSTR := Lib.hid hstr
      clear htk hstr
      go_wp2_with fail
      refine (HSTR.out).mono ?_
      rintro e w2 ⟨rfl, b2⟩
      go_wp2
      go_ret
      exact ⟨rfl, HB1.out.trans ((HB.out.trans b2).mono HB1.out.size)⟩

end Go.Proofs.YtionnohajnnfmaaGreatDoor
