/- Rows of elements of one cell or more that lie in memory, and slices.IndexFunc and slices.DeleteFunc for []string, for every predicate that returns; for rows of up to 10^6 elements. -/
import Derived.Test.YtionnohajnnfmaaGreatDoorWords
import Derived.Test.YtionnohajnnfmaaGreatDoorSeq
import Derived.Lib.SliceRun
namespace Go.Proofs.YtionnohajnnfmaaGreatDoor
open Go.RowKit Go.Lib Go.Proofs

/-- v is a slice of n elements of some cells each, and these hold xs. -/
def RowG (w : World) (v : Value) (n size : Nat) (xs : List Value) : Prop :=
  xs.length = n * size ∧ ∃ ao cap, v = .slice ao n cap ∧ n ≤ cap ∧ (n = 0 ∨ ∃ b o, ao = some ⟨b, o, none⟩ ∧ b < w.heap.size ∧ ∀ j, j < n * size → w.cell? ⟨b, o + j, none⟩ = xs[j]?)

theorem RowG.below {w w' : World} {v : Value} {n size : Nat} {xs : List Value} (h : RowG w v n size xs) (hb : Below w.heap.size w w') : RowG w' v n size xs := by
  obtain ⟨h0, ao, cap, h1, h2, h3⟩ := h
  refine ⟨h0, ao, cap, h1, h2, ?_⟩
  rcases h3 with h3 | ⟨b, o, h4, h5, h6⟩
  · exact Or.inl h3
  · exact Or.inr ⟨b, o, h4, Nat.lt_of_lt_of_le h5 hb.size, fun j hj => by rw [hb.cell (by exact h5)]; exact h6 j hj⟩

theorem RowG.owns {w : World} {base size n : Nat} {e : TypeId} {v : Value} {xs : List Value} (h : w.ownsRow base e size v n xs) : RowG w v n size xs := by
  refine ⟨h.1, ?_⟩
  rcases h.2 with ⟨hv, h0⟩ | ⟨g, cap, cur, hv, hg, hh, hnc, _⟩
  · exact ⟨none, 0, by rw [hv, h0], by omega, Or.inl h0⟩
  · refine ⟨some ⟨g, 0, none⟩, cap, hv, hnc, Or.inr ⟨g, 0, rfl, ?_, fun j hj => ?_⟩⟩
    · by_cases hlt : g < w.heap.size
      · exact hlt
      · rw [Array.getElem?_eq_none (by omega)] at hh; cases hh
    · subst hv
      rw [Nat.zero_add, h.cellAt j hj]

/-- Some texts, as Go's slice of them holds them. -/
def cellsS (l : List ByteArray) : List Value := l.map .string
theorem cellsS_get (l : List ByteArray) (i : Nat) (hi : i < l.length) : (cellsS l)[i]? = some (.string l[i]) := by simp [cellsS, hi]
theorem cellsS_len (l : List ByteArray) : (cellsS l).length = l.length := by simp [cellsS]
theorem cellsS_snoc (l : List ByteArray) (x : ByteArray) : cellsS l ++ [.string x] = cellsS (l ++ [x]) := by simp [cellsS]
theorem cellsS_app (l r : List ByteArray) : cellsS l ++ cellsS r = cellsS (l ++ r) := by simp [cellsS]

theorem ownsRow_take {w : World} {base g n cap i : Nat} {e : TypeId} {xs : List Value} (h : w.ownsRow base e 1 (.slice (some ⟨g, 0, none⟩) n cap) n xs) (hi : i ≤ n) : w.ownsRow base e 1 (.slice (some ⟨g, 0, none⟩) i cap) i (xs.take i) := by
  rcases h.2 with ⟨h', _⟩ | ⟨g', cap', cur, h', hb, hg, hnc, hcm, hcs, htake⟩
  · simp at h'
  · simp only [Value.slice.injEq, Option.some.injEq, Addr.mk.injEq, and_true, true_and] at h'
    obtain ⟨rfl, rfl⟩ := h'
    have hl := h.1
    refine ⟨by simp; omega, .inr ⟨g, cap, cur, rfl, hb, hg, by omega, hcm, hcs, ?_⟩⟩
    rw [← htake, List.take_take, show min i (n * 1) = i * 1 by omega]

/-- Behind the store of some values from place i on, what lies ahead is as it was. -/
theorem ownsRow_setCells {e : TypeId} {base g n cap : Nat} : ∀ (vs : List Value) (i : Nat) (w : World) (xs : List Value), w.ownsRow base e 1 (.slice (some ⟨g, 0, none⟩) n cap) n xs →
    ∃ ys, ys.take i = xs.take i ∧ (w.setCells g i vs).ownsRow base e 1 (.slice (some ⟨g, 0, none⟩) n cap) n ys ∧ w.grownBy (w.setCells g i vs) (some g)
  | [], i, w, xs, h => ⟨xs, rfl, h, ⟨rfl, rfl, rfl, Nat.le_refl _, fun _ _ _ => rfl⟩⟩
  | u :: vs, i, w, xs, h => by
    obtain ⟨h1, h2⟩ := h.stored i u
    obtain ⟨ys, h3, h4, h5⟩ := ownsRow_setCells vs (i + 1) _ _ h1
    refine ⟨ys, ?_, h4, ⟨h5.os.trans h2.os, h5.tape.trans h2.tape, h5.output.trans h2.output, Nat.le_trans h2.size h5.size, fun k hk hne => (h5.block k (Nat.lt_of_lt_of_le hk h2.size) hne).trans (h2.block k hk hne)⟩⟩
    have := congrArg (List.take i) h3
    rw [List.take_take, List.take_take, Nat.min_eq_left (by omega)] at this
    rw [this, List.take_set_of_le (by omega)]

theorem grownBy_below {A B : World} {row : Option Nat} (h : Below A.heap.size A B) : A.grownBy B row := ⟨h.os, h.tape, h.output, h.size, fun k hk _ => h.block k hk⟩
theorem grownBy_trans {a b c : World} {row : Option Nat} (h : a.grownBy b row) (k : b.grownBy c row) : a.grownBy c row :=
  ⟨k.os.trans h.os, k.tape.trans h.tape, k.output.trans h.output, Nat.le_trans h.size k.size, fun i hi hne => (k.block i (Nat.lt_of_lt_of_le hi h.size) hne).trans (h.block i hi hne)⟩
theorem grownBy_refl (a : World) (row : Option Nat) : a.grownBy a row := ⟨rfl, rfl, rfl, Nat.le_refl _, fun _ _ _ => rfl⟩
theorem below_grownBy {A B : World} (h : A.grownBy B none) : Below A.heap.size A B := ⟨h.os, h.tape, h.output, h.size, fun k hk => h.block k hk (by simp)⟩

/-- What IndexFunc hands back. -/
def IndexPost {α : Type} (p : α → Bool) (xs : List α) (w : World) (e : Ending) (w' : World) : Prop :=
  ∃ i : Int, e = .returned (.int .i64 i) ∧ ((i = -1 ∧ ∀ x ∈ xs, p x = false) ∨ ∃ k : Nat, i = k ∧ ∃ h : k < xs.length, p xs[k] = true ∧ ∀ x ∈ xs.take k, p x = false) ∧ Below w.heap.size w w'

/-- A predicate that is called with one text. -/
def PredS (f : Nat) (lb : Array Value) (p : ByteArray → Bool) (xs : List ByteArray) (Old : World → Prop) : Prop :=
  ∀ x ∈ xs, ∀ W, Old W → Calls Tryz.prog f (#[.string x] ++ lb) W fun e W' => e = .returned (.bool (p x)) ∧ Below W.heap.size W W'

theorem take_snoc_pred {α : Type} {p : α → Bool} {xs : List α} {k : Nat} (hk : k < xs.length) (h : ∀ x ∈ xs.take k, p x = false) (h2 : p xs[k] = false) : ∀ x ∈ xs.take (k + 1), p x = false := by
  intro x hx
  rw [List.take_succ_eq_append_getElem hk] at hx
  rcases List.mem_append.1 hx with hx | hx
  · exact h x hx
  · rw [List.mem_singleton] at hx; rw [hx]; exact h2

set_option maxRecDepth 100000 in
set_option maxHeartbeats 4000000 in
theorem slIndexS_any (f : Nat) (lb : Array Value) (eg : ∀ args w, (callFunc f args).run Tryz.prog w = .ok (.enter f args) w) (p : ByteArray → Bool) (xs : List ByteArray) (v : Value) (w : World)
    (hr : RowG w v xs.length 1 (cellsS xs)) (hlen : xs.length ≤ 1000000) (hp : PredS f lb p xs fun W => Below w.heap.size w W) :
    Calls Tryz.prog 79 #[v, .func (.func f) #[] lb] w (IndexPost p xs w) := by
  obtain ⟨h0, ao, cap, rfl, hcap, hc⟩ := hr
  obtain ⟨n, hn⟩ : ∃ n, n = xs.length := ⟨_, rfl⟩
  have HN := Lib.hid hn
  have HP := Lib.hid hp
  rw [← hn] at hc hlen hcap ⊢
  clear h0 hp hn
  by_cases hz : n = 0
  · subst hz
    go_enter Tryz.func79, Tryz.ntmps79
    go_wp2
    go_loop [8] (fun i => i = .int .i64 0) (fun _ => 0)
    case atStart => rfl
    case round =>
      subst hrel
      go_wp2
      go_ret
      have hx0 : xs = [] := List.length_eq_zero_iff.1 HN.out.symm
      exact ⟨-1, rfl, Or.inl ⟨rfl, by rw [hx0]; simp⟩, Below.refl _ _⟩
  · rcases hc with hc | ⟨b, o, rfl, hb, hc⟩
    · exact absurd hc hz
    have HC := Lib.hid hc
    clear hc
    go_enter Tryz.func79, Tryz.ntmps79
    go_wp2
    go_loopw [8] (fun i wr => ∃ k : Nat, i = .int .i64 k ∧ k ≤ n ∧ Hid (∀ x ∈ xs.take k, p x = false) ∧ Hid (Below w.heap.size w wr)) (fun i _ => n - (RowKit.intOf i).toNat)
    case atStart => exact ⟨0, rfl, by omega, Lib.hid (by simp), Lib.hid (Below.refl _ _)⟩
    case round =>
      obtain ⟨k, rfl, hkn, HF, HB⟩ := hrel
      by_cases hlt : k < n
      · have hlx : k < xs.length := by rw [← HN.out]; exact hlt
        have hcell : wr.cell? ⟨b, o + k, none⟩ = some (.string xs[k]) := by
          rw [HB.out.cell (by exact hb), HC.out k (by omega), cellsS_get xs k hlx]
        have hcall := HP.out xs[k] (List.getElem_mem hlx) wr HB.out
        obtain ⟨x, hx⟩ : ∃ x, x = xs[k] := ⟨_, rfl⟩
        rw [← hx] at hcell hcall
        cases hpx : p x with
        | true =>
          rw [hpx] at hcall
          have HCALL := Lib.hid hcall
          have HX := Lib.hid hx
          have HPX := Lib.hid hpx
          clear hcall hx hpx
          go_wp2_with fail
          refine (HCALL.out).mono ?_
          rintro e w1 ⟨rfl, hb1⟩
          go_wp2
          go_ret
          exact ⟨k, rfl, Or.inr ⟨k, rfl, hlx, by rw [← HX.out]; exact HPX.out, HF.out⟩, HB.out.trans (hb1.mono HB.out.size)⟩
        | false =>
          rw [hpx] at hcall
          have HCALL := Lib.hid hcall
          have HX := Lib.hid hx
          have HPX := Lib.hid hpx
          clear hcall hx hpx
          go_wp2_with fail
          refine (HCALL.out).mono ?_
          rintro e w1 ⟨rfl, hb1⟩
          have HB1 := Lib.hid hb1
          clear hb1
          go_wp2
          go_roundw
          case rel =>
            exact ⟨k + 1, by go_num, by omega, Lib.hid (take_snoc_pred hlx HF.out (by rw [← HX.out]; exact HPX.out)), Lib.hid (HB.out.trans (HB1.out.mono HB.out.size))⟩
          case measure => simp [RowKit.intOf]; omega
      · obtain rfl : k = n := by omega
        have hge : (k : Int) ≤ (k : Int) := Int.le_refl _
        go_wp2
        go_ret
        refine ⟨-1, rfl, Or.inl ⟨rfl, ?_⟩, HB.out⟩
        have := HF.out
        rw [HN.out, List.take_length] at this
        exact this

theorem filter_head {α : Type} {p : α → Bool} {xs : List α} {k : Nat} (hk : k < xs.length) (h1 : p xs[k] = true) (h2 : ∀ x ∈ xs.take k, p x = false) : (xs.take (k + 1)).filter (fun x => !p x) = xs.take k := by
  rw [List.take_succ_eq_append_getElem hk, List.filter_append]
  have e1 : (xs.take k).filter (fun x => !p x) = xs.take k := List.filter_eq_self.2 fun x hx => by rw [h2 x hx]; rfl
  rw [e1]
  simp [h1]

theorem filter_step {α : Type} {p : α → Bool} {xs : List α} {k : Nat} (hk : k < xs.length) : (xs.take (k + 1)).filter (fun x => !p x) = (xs.take k).filter (fun x => !p x) ++ if p xs[k] = true then [] else [xs[k]] := by
  rw [List.take_succ_eq_append_getElem hk, List.filter_append]
  cases h : p xs[k] <;> simp [h]

/-- What the round of DeleteFunc leaves: the first i places hold what stays of the first j, the rest is untouched. -/
structure DelInv (p : ByteArray → Bool) (xs : List ByteArray) (w : World) (base g n cap i j : Nat) (W : World) : Prop where
  row : ∃ ys, W.ownsRow base 9 1 (.slice (some ⟨g, 0, none⟩) n cap) n (cellsS ys) ∧ ys.length = n ∧ ys.take i = (xs.take j).filter (fun x => !p x) ∧ ys.drop j = xs.drop j
  lt : i < j
  old : w.grownBy W (some g)

theorem DelInv.keep {p : ByteArray → Bool} {xs : List ByteArray} {w : World} {base g n cap i j : Nat} {A B : World} (h : DelInv p xs w base g n cap i j A) (hb : Below A.heap.size A B) : DelInv p xs w base g n cap i j B :=
  ⟨h.row.imp fun ys hy => ⟨ownsRow_below hy.1 hb, hy.2⟩, h.lt, grownBy_trans h.old (grownBy_below hb)⟩

theorem DelInv.cell {p : ByteArray → Bool} {xs : List ByteArray} {w : World} {base g n cap i j : Nat} {A : World} (h : DelInv p xs w base g n cap i j A) (hn : n = xs.length) (hj : j < n) : A.cell? ⟨g, 0 + j, none⟩ = some (.string (xs[j]'(by omega))) ∧ (∃ u, A.cell? ⟨g, 0 + i, none⟩ = some (.string u)) ∧ A.frozen? ⟨g, 0 + i, none⟩ = false := by
  obtain ⟨⟨ys, h1, h2, h3, h4⟩, h5, h6⟩ := h
  have hij : i < ys.length := by omega
  refine ⟨?_, ⟨ys[i], ?_⟩, by rw [Nat.zero_add]; exact h1.frozenAt i⟩
  · rw [Nat.zero_add, h1.cellAt j (by omega), cellsS_get ys j (by omega)]
    have := congrArg (fun l => l[0]?) h4
    simp only [List.getElem?_drop, Nat.add_zero] at this
    rw [List.getElem?_eq_getElem (by omega), List.getElem?_eq_getElem (by omega)] at this
    injection this with this
    rw [this]
  · rw [Nat.zero_add, h1.cellAt i (by omega), cellsS_get ys i hij]

theorem DelInv.skip {p : ByteArray → Bool} {xs : List ByteArray} {w : World} {base g n cap i j : Nat} {A : World} (h : DelInv p xs w base g n cap i j A) (hn : n = xs.length) (hj : j < n) (hp : p (xs[j]'(by omega)) = true) : DelInv p xs w base g n cap i (j + 1) A := by
  obtain ⟨⟨ys, h1, h2, h3, h4⟩, h5, h6⟩ := h
  refine ⟨⟨ys, h1, h2, ?_, ?_⟩, by omega, h6⟩
  · rw [filter_step (by omega), if_pos hp, List.append_nil]; exact h3
  · rw [← List.drop_drop, ← List.drop_drop, h4]

theorem DelInv.store {p : ByteArray → Bool} {xs : List ByteArray} {w : World} {base g n cap i j : Nat} {A : World} (h : DelInv p xs w base g n cap i j A) (hn : n = xs.length) (hj : j < n) (hp : p (xs[j]'(by omega)) = false) : DelInv p xs w base g n cap (i + 1) (j + 1) (A.setCell ⟨g, 0 + i, none⟩ (.string (xs[j]'(by omega)))) := by
  obtain ⟨⟨ys, h1, h2, h3, h4⟩, h5, h6⟩ := h
  rw [Nat.zero_add]
  obtain ⟨s1, s2⟩ := h1.stored i (.string (xs[j]'(by omega)))
  refine ⟨⟨ys.set i (xs[j]'(by omega)), ?_, by simp [h2], ?_, ?_⟩, by omega, grownBy_trans h6 s2⟩
  · have : (cellsS ys).set i (.string (xs[j]'(by omega))) = cellsS (ys.set i (xs[j]'(by omega))) := by simp [cellsS, List.map_set]
    rw [this] at s1; exact s1
  · rw [filter_step (by omega), if_neg (by rw [hp]; decide), ← h3, List.take_succ_eq_append_getElem (by simp; omega)]
    rw [List.take_set_of_le (by omega)]
    simp
  · rw [List.drop_set_of_lt (by omega), ← List.drop_drop, ← List.drop_drop, h4]

/-- What DeleteFunc hands back: a slice that owns what the predicate lets stay. -/
def DeletePost (p : ByteArray → Bool) (xs : List ByteArray) (base : Nat) (row : Option Nat) (w : World) (e : Ending) (w' : World) : Prop :=
  ∃ v', e = .returned v' ∧ w'.ownsRow base 9 1 v' (xs.filter fun x => !p x).length (cellsS (xs.filter fun x => !p x)) ∧ w.grownBy w' row

theorem zeroS : ∀ w : World, (zeroValue 9).run Tryz.prog w = .ok (.string ⟨#[]⟩) w := fun w => Tryz.zeroValue9 w

set_option maxRecDepth 100000 in
set_option maxHeartbeats 4000000 in
theorem slDeleteS_any (f : Nat) (lb : Array Value) (eg : ∀ args w, (callFunc f args).run Tryz.prog w = .ok (.enter f args) w) (p : ByteArray → Bool) (xs : List ByteArray) (base : Nat) (v : Value) (w : World)
    (ho : w.ownsRow base 9 1 v xs.length (cellsS xs)) (hlen : xs.length ≤ 1000000) (hp : PredS f lb p xs fun W => w.grownBy W v.ownBlock) :
    Calls Tryz.prog 41 #[v, .func (.func f) #[] lb] w (DeletePost p xs base v.ownBlock w) := by
  have hI := slIndexS_any f lb eg p xs v w (RowG.owns ho) hlen fun x hx W hW => hp x hx W (grownBy_below hW)
  have HI := Lib.hid hI
  have HP := Lib.hid hp
  have HO := Lib.hid ho
  clear hI hp ho
  go_enter Tryz.func41, Tryz.ntmps41
  go_wp2_with fail
  refine (HI.out).mono ?_
  rintro e w1 ⟨i, rfl, hi, hb1⟩
  have HB1 := Lib.hid hb1
  clear hb1
  rcases hi with ⟨rfl, hall⟩ | ⟨k, rfl, hk, hpk, hpre⟩
  · have hf : xs.filter (fun x => !p x) = xs := List.filter_eq_self.2 fun x hx => by rw [hall x hx]; rfl
    have HF := Lib.hid hf
    clear hall hf
    go_wp2
    go_ret
    exact ⟨v, rfl, by rw [HF.out]; exact ownsRow_below HO.out HB1.out, grownBy_below HB1.out⟩
  · obtain ⟨g, cap, rfl, hg, hnc⟩ := owns_shape HO.out (by omega)
    obtain ⟨n, hn⟩ : ∃ n, n = xs.length := ⟨_, rfl⟩
    have hstart : DelInv p xs w base g xs.length cap k (k + 1) w1 :=
      ⟨⟨xs, ownsRow_below HO.out HB1.out, rfl, (filter_head hk hpk hpre).symm, rfl⟩, by omega, grownBy_below HB1.out⟩
    have hown : (Value.slice (some ⟨g, 0, none⟩) xs.length cap).ownBlock = some g := rfl
    rw [hown] at HP ⊢
    rw [← hn] at hstart hnc hlen hk ⊢
    have HN := Lib.hid hn
    have HS := Lib.hid hstart
    clear hn hstart hpk hpre hown HI
    have hk0 : ((k : Int) == -1) = false := by rw [beq_eq_false_iff_ne]; omega
    go_wp2
    go_loopw [5, 6] (fun i j wr => ∃ a b : Nat, i = .int .i64 a ∧ j = .int .i64 b ∧ a < b ∧ b ≤ n ∧ Hid (DelInv p xs w base g n cap a b wr)) (fun _ j _ => n - (RowKit.intOf j).toNat)
    case atStart => exact ⟨k, k + 1, rfl, by go_num, by omega, by omega, HS⟩
    case round =>
      obtain ⟨a, b, rfl, rfl, hab, hbn, HD⟩ := hrel
      by_cases hlt : b < n
      · have hlx : b < xs.length := by rw [← HN.out]; exact hlt
        obtain ⟨c1, ⟨u, c2⟩, f2⟩ := HD.out.cell HN.out hlt
        have hcall := HP.out xs[b] (List.getElem_mem hlx) wr HD.out.old
        have hcase : (p xs[b] = true ∧ DelInv p xs w base g n cap a (b + 1) wr) ∨ (p xs[b] = false ∧ ∀ W, Below wr.heap.size wr W → DelInv p xs w base g n cap (a + 1) (b + 1) (W.setCell ⟨g, 0 + a, none⟩ (.string xs[b]))) := by
          cases hpx : p xs[b] with
          | true => exact Or.inl ⟨rfl, HD.out.skip HN.out hlt hpx⟩
          | false => exact Or.inr ⟨rfl, fun W hW => (HD.out.keep hW).store HN.out hlt hpx⟩
        generalize xs[b] = x at hcall c1 hcase
        rcases hcase with ⟨hpx, hnew⟩ | ⟨hpx, hnew⟩
        · rw [hpx] at hcall
          have HCALL := Lib.hid hcall
          have HNEW := Lib.hid hnew
          clear hcall hnew hpx
          rw [Nat.zero_add] at c1
          go_wp2_with fail
          refine (HCALL.out).mono ?_
          rintro e w2 ⟨rfl, hb2⟩
          have HB2 := Lib.hid hb2
          clear hb2
          go_wp2
          go_roundw
          case rel => exact ⟨a, b + 1, rfl, by go_num, by omega, by omega, Lib.hid (HNEW.out.keep HB2.out)⟩
          case measure => simp [RowKit.intOf]; omega
        · rw [hpx] at hcall
          have HCALL := Lib.hid hcall
          have HNEW := Lib.hid hnew
          have hc2 : ∀ W, Below wr.heap.size wr W → W.cell? ⟨g, a, none⟩ = some (.string u) ∧ W.frozen? ⟨g, a, none⟩ = false := fun W hW => by
            obtain ⟨_, _, f3⟩ := (HD.out.keep hW).cell HN.out hlt
            rw [Nat.zero_add] at c2 f3
            exact ⟨(hW.cell (p := ⟨g, a, none⟩) (cell_lt c2)).trans c2, f3⟩
          have HC2 := Lib.hid hc2
          clear hcall hnew hpx hc2 c2 f2
          rw [Nat.zero_add] at c1
          have hac : a < n := by omega
          go_wp2_with fail
          refine (HCALL.out).mono ?_
          rintro e w2 ⟨rfl, hb2⟩
          obtain ⟨c3, f3⟩ := HC2.out _ hb2
          have HB2 := Lib.hid hb2
          clear hb2
          go_wp2
          go_roundw
          case rel => exact ⟨a + 1, b + 1, by go_num, by go_num, by omega, by omega, Lib.hid (by have := HNEW.out _ HB2.out; rwa [Nat.zero_add] at this)⟩
          case measure => simp [RowKit.intOf]; omega
      · obtain rfl : b = n := by omega
        obtain ⟨⟨ys, h1, h2, h3, h4⟩, h5, h6⟩ := HD.out
        have hfil : ys.take a = xs.filter (fun x => !p x) := by rw [h3, List.take_of_length_le (by rw [HN.out]; exact Nat.le_refl _)]
        have hlena : (xs.filter fun x => !p x).length = a := by rw [← hfil]; simp; omega
        have hcl : ∀ ty, (Builtin.clear_ #[34] ty #[.slice (some ⟨g, a, none⟩) (b - a) (cap - a)]).run Tryz.prog wr = .ok (.tuple #[]) (wr.setCells g a (List.replicate (b - a) (.string ⟨#[]⟩))) :=
          fun ty => run_clear_slice wr _ _ ty _ Tryz.underlying34 zeroS rfl rfl g a _ _ (by omega) (fun j hj => by rw [h1.cellAt (a + j) (by omega), cellsS_get ys (a + j) (by omega)]; rfl) (fun j hj => h1.frozenAt _)
        obtain ⟨zs, z1, z2, z3⟩ := ownsRow_setCells (List.replicate (b - a) (.string ⟨#[]⟩)) a wr (cellsS ys) h1
        have hfin := ownsRow_take z2 (i := a) (by omega)
        rw [z1] at hfin
        have he : (cellsS ys).take a = cellsS (xs.filter fun x => !p x) := by rw [← hfil]; simp [cellsS]
        rw [he] at hfin
        have HFIN := Lib.hid hfin
        have H6 := Lib.hid (grownBy_trans h6 z3)
        have HLA := Lib.hid hlena
        have hge : (b : Int) ≤ (b : Int) := Int.le_refl _
        clear h1 h2 h3 h4 h6 hfil hlena z1 z2 z3 hfin he HD
        have hac : a ≤ b := by omega
        go_wp2
        go_ret
        exact ⟨_, rfl, by rw [HLA.out]; exact HFIN.out, H6.out⟩

end Go.Proofs.YtionnohajnnfmaaGreatDoor
