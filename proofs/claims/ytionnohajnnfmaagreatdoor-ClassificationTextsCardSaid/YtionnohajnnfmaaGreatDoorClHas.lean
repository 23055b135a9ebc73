/- Contracts of classification.Has and hasParent (with slices.ContainsFunc and IndexFunc for headings): whether a list has a heading with a code, or the parent of one; for lists of up to 10^6 headings with texts of up to 10^6 bytes. -/
import Derived.Test.YtionnohajnnfmaaGreatDoorClTree
namespace Go.Proofs.YtionnohajnnfmaaGreatDoor
open Go.RowKit Go.Lib Go.Proofs

/-- A predicate that is called with one heading. -/
def PredH (f : Nat) (lb : Array Value) (p : Head → Bool) (hs : List Head) (Old : World → Prop) : Prop :=
  ∀ h ∈ hs, ∀ W, Old W → Calls Tryz.prog f (#[.agg #[.string h.1, .string h.2]] ++ lb) W fun e W' => e = .returned (.bool (p h)) ∧ Below W.heap.size W W'

set_option maxRecDepth 100000 in
set_option maxHeartbeats 4000000 in
theorem slIndexH_any (f : Nat) (lb : Array Value) (eg : ∀ args w, (callFunc f args).run Tryz.prog w = .ok (.enter f args) w) (p : Head → Bool) (xs : List Head) (v : Value) (w : World)
    (hr : RowG w v xs.length 2 (cellsH xs)) (hlen : xs.length ≤ 1000000) (hp : PredH f lb p xs fun W => Below w.heap.size w W) :
    Calls Tryz.prog 179 #[v, .func (.func f) #[] lb] w (IndexPost p xs w) := by
  obtain ⟨h0, ao, cap, rfl, hcap, hc⟩ := hr
  obtain ⟨n, hn⟩ : ∃ n, n = xs.length := ⟨_, rfl⟩
  have HN := Lib.hid hn
  have HP := Lib.hid hp
  rw [← hn] at hc hlen hcap ⊢
  clear h0 hp hn
  by_cases hz : n = 0
  · subst hz
    go_enter Tryz.func179, Tryz.ntmps179
    go_wp2
    go_loop [8] (fun i => i = .int .i64 0) (fun _ => 0)
    case atStart => rfl
    case round =>
      subst hrel
      go_wp2
      go_ret
      have hx0 : xs = [] := List.length_eq_zero_iff.1 HN.out.symm
      exact ⟨-1, rfl, Or.inl ⟨rfl, by rw [hx0]; simp⟩, Below.refl _ _⟩
  · rcases hc with hc | ⟨b, o, rfl, hb, hc⟩
    · exact absurd hc hz
    have HC := Lib.hid hc
    clear hc
    go_enter Tryz.func179, Tryz.ntmps179
    go_wp2
    go_loopw [8] (fun i wr => ∃ k : Nat, i = .int .i64 k ∧ k ≤ n ∧ Hid (∀ x ∈ xs.take k, p x = false) ∧ Hid (Below w.heap.size w wr)) (fun i _ => n - (RowKit.intOf i).toNat)
    case atStart => exact ⟨0, rfl, by omega, Lib.hid (by simp), Lib.hid (Below.refl _ _)⟩
    case round =>
      obtain ⟨k, rfl, hkn, HF, HB⟩ := hrel
      by_cases hlt : k < n
      · have hlx : k < xs.length := by rw [← HN.out]; exact hlt
        obtain ⟨g1, g2⟩ := cellsH_get xs k hlx
        have c1 : wr.cell? ⟨b, o + k * 2, none⟩ = some (.string xs[k].1) := by rw [HB.out.cell (by exact hb), HC.out (k * 2) (by omega), g1]
        have c2 : wr.cell? ⟨b, o + k * 2 + 1, none⟩ = some (.string xs[k].2) := by rw [Nat.add_assoc, HB.out.cell (by exact hb), HC.out (k * 2 + 1) (by omega), g2]
        have hcall := HP.out xs[k] (List.getElem_mem hlx) wr HB.out
        obtain ⟨x, hx⟩ : ∃ x, x = xs[k] := ⟨_, rfl⟩
        rw [← hx] at c1 c2 hcall
        cases hpx : p x with
        | true =>
          rw [hpx] at hcall
          have HCALL := Lib.hid hcall
          have HX := Lib.hid hx
          have HPX := Lib.hid hpx
          clear hcall hx hpx g1 g2
          go_wp2_with fail
          refine (HCALL.out).mono ?_
          rintro e w1 ⟨rfl, hb1⟩
          go_wp2
          go_ret
          exact ⟨k, rfl, Or.inr ⟨k, rfl, hlx, by rw [← HX.out]; exact HPX.out, HF.out⟩, HB.out.trans (hb1.mono HB.out.size)⟩
        | false =>
          rw [hpx] at hcall
          have HCALL := Lib.hid hcall
          have HX := Lib.hid hx
          have HPX := Lib.hid hpx
          clear hcall hx hpx g1 g2
          go_wp2_with fail
          refine (HCALL.out).mono ?_
          rintro e w1 ⟨rfl, hb1⟩
          have HB1 := Lib.hid hb1
          clear hb1
          go_wp2
          go_roundw
          case rel => exact ⟨k + 1, by go_num, by omega, Lib.hid (take_snoc_pred hlx HF.out (by rw [← HX.out]; exact HPX.out)), Lib.hid (HB.out.trans (HB1.out.mono HB.out.size))⟩
          case measure => simp [RowKit.intOf]; omega
      · obtain rfl : k = n := by omega
        have hge : (k : Int) ≤ (k : Int) := Int.le_refl _
        go_wp2
        go_ret
        refine ⟨-1, rfl, Or.inl ⟨rfl, ?_⟩, HB.out⟩
        have := HF.out
        rw [HN.out, List.take_length] at this
        exact this

set_option maxHeartbeats 1000000 in
theorem slContainsH_any (f : Nat) (lb : Array Value) (eg : ∀ args w, (callFunc f args).run Tryz.prog w = .ok (.enter f args) w) (p : Head → Bool) (xs : List Head) (v : Value) (w : World)
    (hr : RowG w v xs.length 2 (cellsH xs)) (hlen : xs.length ≤ 1000000) (hp : PredH f lb p xs fun W => Below w.heap.size w W) :
    Calls Tryz.prog 164 #[v, .func (.func f) #[] lb] w fun e w' => e = .returned (.bool (xs.any p)) ∧ Below w.heap.size w w' := by
  have HI := Lib.hid (slIndexH_any f lb eg p xs v w hr hlen hp)
  obtain ⟨r, hr'⟩ : ∃ r, xs.any p = r := ⟨_, rfl⟩
  rw [hr']
  have HR := Lib.hid hr'
  clear hr hp hr'
  go_enter Tryz.func164, Tryz.ntmps164
  go_wp2_with fail
  refine (HI.out).mono ?_
  rintro e w1 ⟨i, rfl, hi, hb⟩
  rcases hi with ⟨rfl, hall⟩ | ⟨k, rfl, hk, hpk, _⟩
  · have hr2 : r = false := by
      rw [← HR.out, Bool.eq_false_iff]
      intro h
      obtain ⟨x, hx, hp⟩ := List.any_eq_true.1 h
      rw [hall x hx] at hp; cases hp
    subst hr2
    clear hall
    go_wp2
    go_ret
    exact ⟨rfl, hb⟩
  · have hr2 : r = true := by
      rw [← HR.out]
      exact List.any_eq_true.2 ⟨_, List.getElem_mem hk, hpk⟩
    subst hr2
    clear hpk
    have h0 : (0 : Int) ≤ (k : Int) := by omega
    go_wp2
    go_ret
    exact ⟨by simp, hb⟩

set_option maxHeartbeats 1000000 in
theorem clHasC_any (c d code : ByteArray) (b : Nat) (w : World) (hc : w.cell? ⟨b, 0, none⟩ = some (.string code)) :
    Calls Tryz.prog 165 #[.agg #[.string c, .string d], .pointer (some ⟨b, 0, none⟩)] w fun e w' => e = .returned (.bool (decide (c = code))) ∧ Below w.heap.size w w' := by
  have hb := cell_lt hc
  by_cases he : c = code
  · have h1 := strEq_true he
    rw [decide_eq_true he]
    clear he
    go_enter Tryz.func165, Tryz.ntmps165
    go_wp2
    go_ret
    exact ⟨by simp, below_alloc _ _⟩
  · have h1 := strEq_false he
    rw [decide_eq_false he]
    clear he
    go_enter Tryz.func165, Tryz.ntmps165
    go_wp2
    go_ret
    exact ⟨by simp, below_alloc _ _⟩

/-- A list has a heading with a code. -/
def hasHeadB (hs : List Head) (code : ByteArray) : Bool := isCodeB code && hs.any fun h => decide (h.1 = code)

set_option maxHeartbeats 2000000 in
theorem clHas_any (hs : List Head) (v : Value) (code : ByteArray) (w : World) (hL : Lay w) (hr : RowG w v hs.length 2 (cellsH hs)) (hlen : hs.length ≤ 1000000) (hcs : code.size ≤ 1000000) :
    Calls Tryz.prog 142 #[v, .string code] w fun e w' => e = .returned (.bool (hasHeadB hs code)) ∧ Below w.heap.size w w' := by
  have hcode := fun o => clisCode_any code (w.alloc o) (hL.below (below_alloc w o) (Nat.le_refl _)) hcs
  obtain ⟨r, hr'⟩ : ∃ r, hasHeadB hs code = r := ⟨_, rfl⟩
  rw [hr']
  unfold hasHeadB at hr'
  have HRW := Lib.hid hr
  cases hq : isCodeB code with
  | false =>
    rw [hq] at hcode hr'
    rw [Bool.false_and] at hr'
    subst hr'
    have HC := Lib.hid hcode
    clear hcode hq hL hr
    go_enter Tryz.func142, Tryz.ntmps142
    go_wp2_with fail
    refine (HC.out _).mono ?_
    rintro e w1 ⟨rfl, hb⟩
    go_wp2
    go_ret
    exact ⟨rfl, (below_alloc w _).trans (hb.mono (below_alloc w _).size)⟩
  | true =>
    rw [hq] at hcode hr'
    rw [Bool.true_and] at hr'
    have HC := Lib.hid hcode
    have HR := Lib.hid hr'
    clear hcode hq hL hr hr'
    go_enter Tryz.func142, Tryz.ntmps142
    go_wp2_with fail
    refine (HC.out _).mono ?_
    rintro e w1 ⟨rfl, hb⟩
    have hbox : w1.cell? ⟨w.heap.size, 0, none⟩ = some (.string code) := by
      rw [hb.cell (p := ⟨w.heap.size, 0, none⟩) (by simp)]
      simp
    have hB1 : Below w.heap.size w w1 := (below_alloc w _).trans (hb.mono (below_alloc w _).size)
    have hcon := slContainsH_any 165 #[.pointer (some ⟨w.heap.size, 0, none⟩)] (enters_of Tryz.func165 (by kernel_rfl) rfl) (fun h => decide (h.1 = code)) hs v w1 (HRW.out.below hB1) hlen (fun h hh W hW =>
      clHasC_any h.1 h.2 code w.heap.size W (by rw [hW.cell (p := ⟨w.heap.size, 0, none⟩) (cell_lt hbox)]; exact hbox))
    rw [HR.out] at hcon
    have HCON := Lib.hid hcon
    have HB1 := Lib.hid hB1
    clear hcon hB1 hbox hb
    go_wp2_with fail
    refine (HCON.out).mono ?_
    rintro e w2 ⟨rfl, hb2⟩
    go_wp2
    go_ret
    exact ⟨rfl, HB1.out.trans (hb2.mono HB1.out.size)⟩

/-- A list has the parent of a code, which one of a single number does not need. -/
def hasParentB (hs : List Head) (code : ByteArray) : Bool := decide (parentB code = ⟨#[]⟩) || hasHeadB hs (parentB code)

set_option maxHeartbeats 2000000 in
theorem clhasParent_any (hs : List Head) (v : Value) (code : ByteArray) (w : World) (hL : Lay w) (hr : RowG w v hs.length 2 (cellsH hs)) (hlen : hs.length ≤ 1000000) (hcs : code.size ≤ 1000000) :
    Calls Tryz.prog 107 #[v, .string code] w fun e w' => e = .returned (.bool (hasParentB hs code)) ∧ Below w.heap.size w w' := by
  have HP := Lib.hid (clparent_any code w hcs)
  have hz := parentB_size code
  have HH := Lib.hid (clHas_any hs v (parentB code) w hL hr hlen (by omega))
  unfold hasParentB
  generalize parentB code = up at *
  generalize hasHeadB hs up = r at *
  clear hL hr
  by_cases h : up = ⟨#[]⟩
  · have h1 := strNil_true h
    have h3 : up.toList.isEmpty = true := by simpa using h1
    rw [decide_eq_true h, Bool.true_or]
    clear h
    go_enter Tryz.func107, Tryz.ntmps107
    go_wp2_with fail
    refine (HP.out).mono ?_
    rintro e w1 ⟨rfl, rfl⟩
    go_wp2
    go_ret
    exact ⟨rfl, Below.refl _ _⟩
  · have h1 := strNil_false h
    have h3 : up.toList.isEmpty = false := by simpa using h1
    rw [decide_eq_false h, Bool.false_or]
    clear h
    go_enter Tryz.func107, Tryz.ntmps107
    go_wp2_with fail
    refine (HP.out).mono ?_
    rintro e w1 ⟨rfl, rfl⟩
    go_wp2_with fail
    refine (HH.out).mono ?_
    rintro e w2 ⟨rfl, hb⟩
    go_wp2
    go_ret
    exact ⟨by simp [h3], hb⟩

end Go.Proofs.YtionnohajnnfmaaGreatDoor
