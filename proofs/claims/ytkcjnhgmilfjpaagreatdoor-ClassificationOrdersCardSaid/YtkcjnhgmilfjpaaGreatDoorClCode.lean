/- The contract of classification.Code: the code with some numbers; of one to four numbers from 1 to 99. -/
import Derived.Test.YtkcjnhgmilfjpaaGreatDoorCodeM
import Derived.Test.YtkcjnhgmilfjpaaGreatDoorShelfC
namespace Go.Proofs.YtkcjnhgmilfjpaaGreatDoor
open Go.RowKit Go.Lib Go.Proofs

/-- The words of the first k numbers, the others empty. -/
def upS (ns : List Nat) (k : Nat) : List ByteArray := (ns.take k).map decB ++ List.replicate (ns.length - k) ⟨#[]⟩

theorem upS_len {ns : List Nat} {k : Nat} (hk : k ≤ ns.length) : (upS ns k).length = ns.length := by
  unfold upS; simp; omega
theorem upS_set {ns : List Nat} {k : Nat} (hk : k < ns.length) : (upS ns k).set k (decB ns[k]) = upS ns (k + 1) := by
  unfold upS
  have hl : ((ns.take k).map decB).length = k := by simp; omega
  rw [List.set_append_right _ _ (by omega), hl, Nat.sub_self, show ns.length - k = (ns.length - (k + 1)) + 1 by omega, List.replicate_succ, List.set_cons_zero, List.take_succ_eq_append_getElem hk, List.map_append, List.append_assoc]
  rfl
theorem upS_full (ns : List Nat) : upS ns ns.length = ns.map decB := by unfold upS; simp
theorem upS_zero (ns : List Nat) : cellsS (upS ns 0) = List.replicate ns.length (.string ⟨#[]⟩) := by unfold upS cellsS; simp

theorem join_joinL (c : UInt8) : ∀ (l : List (List UInt8)), Lib.join l [c] = joinL c l
  | [] => rfl
  | [x] => by rw [Lib.join_one]; rfl
  | x :: y :: r => by
    have ih := join_joinL c (y :: r)
    unfold Lib.join at ih ⊢
    rw [joinL, ← ih]
    simp [List.intercalate, List.intersperse]

theorem code_join (ns : List Nat) : (⟨(Lib.join ((ns.map decB).map (·.data.toList)) (⟨#[46]⟩ : ByteArray).data.toList).toArray⟩ : ByteArray) = codeT ns := by
  have e : (ns.map decB).map (·.data.toList) = ns.map decDigits := by
    rw [List.map_map]
    exact List.map_congr_left fun n _ => decB_list n
  rw [e]
  show (⟨(Lib.join (ns.map decDigits) [46]).toArray⟩ : ByteArray) = _
  rw [join_joinL]
  rfl

set_option maxRecDepth 100000 in
set_option maxHeartbeats 1600000 in
theorem clCode_any (ns : List Nat) (v : Value) (w : World) (hg : GoodN ns) (hr : RowG w v ns.length 1 (cellsI (asInts ns))) :
    Calls Tryz.prog 10 #[v] w fun e w' => e = .returned (.string (codeT ns)) ∧ Below w.heap.size w w' := by
  obtain ⟨i0, hi, hz0, hz1, hz2⟩ := infoS_parts
  obtain ⟨_, ao, cap, rfl, hcap, hc⟩ := hr
  have hpos : 0 < ns.length := List.length_pos_iff.2 hg.1
  have h4 := hg.2.1
  have hall := hg.2.2
  rcases hc with hc | ⟨b, o, rfl, hb, hc⟩
  · omega
  have hsz := codeT_size hg
  obtain ⟨n, hn⟩ : ∃ n, n = ns.length := ⟨_, rfl⟩
  have HN := Lib.hid hn
  rw [← hn] at hpos h4 hcap hc ⊢
  have HC := Lib.hid hc
  have HALL := Lib.hid hall
  have w1 := fun w => clwithin_yes (n := (n : Int)) (lo := 1) (hi := 4) w (inB_true.2 ⟨by omega, by omega⟩)
  have HW1 := Lib.hid w1
  clear hn hc hall hg w1
  go_enter Tryz.func10, Tryz.ntmps10
  go_wp2_with fail
  refine (HW1.out _).mono ?_
  rintro e w' ⟨rfl, rfl⟩
  go_wp2_with (at_make; refine wpList_make_full _ rfl _ _ 42 rfl w.heap.size 9 i0 (.string ⟨#[]⟩) 1 Tryz.underlying42 hi hz0 hz1 .i64 .i64 _ _ n rfl rfl rfl rfl (by rw [hz2]; omega) (by unfold maxLen; omega) (Nat.le_refl _) ?_; intro w1 hown1 hgrow1)
  have hbel : Below w.heap.size w w1 := (Below.refl _ _).grown hgrow1 (Nat.le_refl _) (by simp)
  rw [show (madeCells (Value.string ⟨#[]⟩).cells (n * 1)).toList = cellsS (upS ns 0) from by rw [upS_zero, ← HN.out, Nat.mul_one]; exact toList_madeCells_one _ _] at hown1
  have HO := Lib.hid hown1
  have HB := Lib.hid hbel
  clear hown1 hgrow1 hbel
  go_wp2_with fail
  go_loopw [15] (fun i wr => ∃ k : Nat, i = .int .i64 k ∧ k ≤ n ∧ Hid (wr.ownsRow w.heap.size 9 1 (.slice (some ⟨w.heap.size, 0, none⟩) n n) n (cellsS (upS ns k))) ∧ Hid (Below w.heap.size w wr)) (fun i _ => n - (RowKit.intOf i).toNat)
  case atStart => exact ⟨0, rfl, by omega, HO, HB⟩
  case round =>
    clear HO HB
    obtain ⟨k, rfl, hkn, HO, HB⟩ := hrel
    by_cases hlt : k < n
    · have hkl : k < ns.length := by rw [← HN.out]; exact hlt
      have hck : wr.cell? ⟨b, o + k, none⟩ = some (.int .i64 (ns[k] : Nat)) := by
        rw [HB.out.cell (by exact hb), HC.out k (by omega), cellsI_get _ k (by simpa [asInts] using hkl)]
        simp [asInts, List.getD_eq_getElem?_getD, hkl]
      obtain ⟨hx1, hx2⟩ := HALL.out ns[k] (List.getElem_mem hkl)
      have hst := upS_set hkl
      have hcell : ∃ s, wr.cell? ⟨w.heap.size, k, none⟩ = some (.string s) := ⟨_, by rw [HO.out.cellAt k (by omega), cellsS_get _ k (by rw [upS_len (by omega)]; exact hkl)]⟩
      obtain ⟨s, hs⟩ := hcell
      have hfz : wr.frozen? ⟨w.heap.size, k, none⟩ = false := HO.out.frozenAt k
      generalize ns[k] = x at *
      have HW2 := Lib.hid (fun W => clwithin_yes (n := (x : Int)) (lo := 1) (hi := 99) W (inB_true.2 ⟨by omega, by omega⟩))
      have HI := Lib.hid (fun W => itoa_small x W (by omega))
      have HST := Lib.hid hst
      have hsw := HB.out.size
      have hlw : w.heap.size < wr.heap.size := (HO.out.lt _ rfl).2
      clear hst
      go_wp2_with fail
      refine (HW2.out _).mono ?_
      rintro e w' ⟨rfl, rfl⟩
      go_wp2_with fail
      refine (HI.out _).mono ?_
      rintro e w' ⟨rfl, rfl⟩
      go_wp2_with fail
      have h1 := HO.out.stored k (.string (decB x))
      rw [show (cellsS (upS ns k)).set k (.string (decB x)) = cellsS (upS ns (k + 1)) from by rw [← HST.out]; simp [cellsS, List.map_set]] at h1
      refine ⟨⟨k + 1, by first | rfl | go_num, by omega, Lib.hid h1.1, Lib.hid (HB.out.grown h1.2 hsw (by simp))⟩, ?_⟩
      simp [RowKit.intOf]; omega
    · obtain rfl : k = n := by omega
      have hge : (k : Int) ≤ (k : Int) := Int.le_refl _
      have hcells : ∀ (j : Nat) x, (ns.map decB)[j]? = some x → wr.cell? ⟨w.heap.size, 0 + j, none⟩ = some (.string x) := fun j x hx => by
        have hj : j < ns.length := by
          have := (List.getElem?_eq_some_iff.1 hx).1
          simpa using this
        have hx2 := (List.getElem?_eq_some_iff.1 hx).2
        rw [Nat.zero_add, HO.out.cellAt j (by rw [HN.out]; omega), HN.out, upS_full, cellsS_get _ j (by simpa using hj), hx2]
      have hsz2 : (Lib.join ((ns.map decB).map (·.data.toList)) (⟨#[46]⟩ : ByteArray).data.toList).length ≤ 140737488355328 := by
        have h := congrArg ByteArray.size (code_join ns)
        have h2 : (⟨(Lib.join ((ns.map decB).map (·.data.toList)) (⟨#[46]⟩ : ByteArray).data.toList).toArray⟩ : ByteArray).size = (Lib.join ((ns.map decB).map (·.data.toList)) (⟨#[46]⟩ : ByteArray).data.toList).length := by simp [ByteArray.size]
        omega
      have hlw : w.heap.size < wr.heap.size := (HO.out.lt _ rfl).2
      have hj := Tryz.strings_Join w.heap.size 0 k (ns.map decB) ⟨#[46]⟩ wr hcells hlw (by rw [List.length_map, ← HN.out]; omega) (by rw [List.length_map, ← HN.out]; exact Nat.le_refl _) hsz2
      rw [code_join, List.length_map, ← HN.out] at hj
      have HJ := Lib.hid hj
      clear hj hcells hsz2
      go_wp2_with fail
      refine (HJ.out).mono ?_
      rintro e w2 ⟨rfl, b2⟩
      have HB2 := Lib.hid (HB.out.trans (b2.mono HB.out.size))
      clear b2
      go_wp2_with fail
      go_ret
      exact ⟨rfl, HB2.out⟩

end Go.Proofs.YtkcjnhgmilfjpaaGreatDoor
