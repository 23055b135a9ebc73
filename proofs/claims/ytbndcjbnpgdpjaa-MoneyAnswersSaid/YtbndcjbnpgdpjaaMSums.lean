/- The walk of MoneySums: the sum of a list does not depend on its order, and lists can be added in two parts; for every tape. -/
import Derived.Test.YtbndcjbnpgdpjaaAwake
import Derived.Test.YtbndcjbnpgdpjaaOrder
import Derived.Test.YtbndcjbnpgdpjaaSum
namespace Go.Proofs.Ytbndcjbnpgdpjaa
open Go.RowKit Go.Sort Go.Shelf Go.Lib Go.Proofs

/-- A list of numbers with a bound, in the slice v of the call's own; the tape stands; nothing older has turned. -/
structure LInv (Q : Int → Prop) (w : World) (tb : Nat) (l : List Int) (v : Value) (wr : World) : Prop where
  bd : ∀ x ∈ l, Q x
  own : wr.ownsRow (tb + 1) 3 1 v l.length (cellsI l)
  tape : TapeAt wr tb
  old : Below tb w wr

theorem LInv.snoc {Q : Int → Prop} {w wr : World} {tb : Nat} {l : List Int} {v : Value} (h : LInv Q w tb l v wr) {x : Int} (hx : Q x) {v' : Value} {w' : World} (ho : w'.ownsRow (tb + 1) 3 1 v' (l.length + 1) (cellsI l ++ [.int .i64 x])) {wa : World} (hb : Below wr.heap.size wr wa) (hg : wa.grownBy w' v.ownBlock) :
    LInv Q w tb (l ++ [x]) v' w' := by
  have hsz := h.tape.lt
  refine ⟨fun y hy => ?_, by rw [cellsI_snoc] at ho; simpa using ho, (h.tape.below hb).grown hg fun r hr => by have := ownBlock_le h.own r hr; omega, (h.old.trans (hb.mono (by omega))).grown hg (by have := hb.size; omega) fun r hr => by have := ownBlock_le h.own r hr; omega⟩
  rcases List.mem_append.1 hy with hy | hy
  · exact h.bd y hy
  · simp at hy; subst hy; exact hx

theorem LInv.grown {Q : Int → Prop} {w wr w' : World} {tb : Nat} {l : List Int} {v : Value} (h : LInv Q w tb l v wr) (ht : TapeAt w' tb) (hg : wr.grownBy w' (some tb)) : LInv Q w tb l v w' :=
  ⟨h.bd, h.own.kept hg (ownBlock_ne h.own tb (by omega)), ht, h.old.grown hg (by have := h.tape.lt; omega) (by simp)⟩

theorem LInv.alloc {Q : Int → Prop} {w wr : World} {tb : Nat} {l : List Int} {v : Value} (h : LInv Q w tb l v wr) (o : Obj) : LInv Q w tb l v (wr.alloc o) :=
  ⟨h.bd, h.own.alloc o, h.tape.below ((Below.refl _ _).alloc (Nat.le_refl _) _), h.old.alloc (by have := h.tape.lt; omega) o⟩

theorem LInv.below {Q : Int → Prop} {w wr w' : World} {tb : Nat} {l : List Int} {v : Value} (h : LInv Q w tb l v wr) (hb : Below wr.heap.size wr w') : LInv Q w tb l v w' :=
  ⟨h.bd, ownsRow_below h.own hb, h.tape.below hb, h.old.trans (hb.mono (by have := h.tape.lt; omega))⟩

def small (x : Int) : Prop := -1000000000000 ≤ x ∧ x ≤ 1000000000000

theorem small_sum {l : List Int} (h : ∀ x ∈ l, small x) : -1000000000000 * l.length ≤ sumI l ∧ sumI l ≤ 1000000000000 * l.length := by
  induction l with
  | nil => simp [sumI]
  | cons x l ih =>
    have h1 := h x (List.mem_cons_self ..)
    have h2 := ih fun y hy => h y (List.mem_cons_of_mem _ hy)
    unfold small at h1
    simp only [sumI, List.length_cons, Int.natCast_add, Int.natCast_one, Int.mul_add, Int.mul_one]
    omega

theorem small_sumTo {l : List Int} (h : ∀ x ∈ l, small x) (hl : l.length ≤ 12) : sumTo l 0 = (sumI l, 0) := by
  rw [sumTo_plain l 0 (fun k hk => ?_) (fun x hx => ?_)]
  · simp
  · have h1 := small_sum (l := l.take k) fun x hx => h x (List.mem_of_mem_take hx)
    have h2 : (l.take k).length ≤ 12 := by simp; omega
    rw [tot_iff]
    omega
  · have := h x hx
    unfold small at this
    rw [tot_iff]; omega

theorem owns_gen {w : World} {base : Nat} {e : TypeId} {size : Nat} {v : Value} {n : Nat} {xs : List Value} (h : w.ownsRow base e size v n xs) : ∃ ao cap, v = .slice ao n cap ∧ n ≤ cap ∧ ((ao = none ∧ n = 0 ∧ cap = 0) ∨ ∃ g, ao = some ⟨g, 0, none⟩ ∧ base ≤ g) := by
  rcases h.2 with ⟨hv, h0⟩ | ⟨g, cap, cur, hv, hg, hh, hnc, _⟩
  · exact ⟨none, 0, by rw [hv, h0], by omega, Or.inl ⟨rfl, h0, rfl⟩⟩
  · exact ⟨some ⟨g, 0, none⟩, cap, hv, hnc, Or.inr ⟨g, rfl, hg⟩⟩

theorem Sum_small (v : Value) (l : List Int) (s : Int) (w : World) (h : RowAt w v l) (hs : ∀ x ∈ l, small x) (hl : l.length ≤ 12) (he : sumI l = s) :
    Calls Try.prog 21 #[v] w fun e w' => e = .returned (.tuple #[.int .i64 s, .int .i64 0]) ∧ w = w' := by
  have := Sum_any v l w h (by omega)
  rw [small_sumTo hs hl, he] at this
  exact this

theorem rowAt_take {w : World} {g n cap k : Nat} {l : List Int} (h : RowAt w (.slice (some ⟨g, 0, none⟩) n cap) l) (hl : l.length = n) (hk : k ≤ n) : RowAt w (.slice (some ⟨g, 0, none⟩) k cap) (l.take k) := by
  have hlk : (l.take k).length = k := by simp; omega
  rcases h with ⟨rfl, ao, c, hv⟩ | ⟨b, o, c, hv, hlt, hc⟩
  · have : k = 0 := by simp at hl; omega
    subst this
    exact Or.inl ⟨rfl, _, _, rfl⟩
  · simp only [Value.slice.injEq, Option.some.injEq, Addr.mk.injEq, and_true] at hv
    obtain ⟨⟨rfl, rfl⟩, _, rfl⟩ := hv
    refine Or.inr ⟨g, 0, cap, by rw [hlk], hlt, fun i hi => ?_⟩
    rw [hc i (by omega)]
    have hik : i < k := by omega
    simp [List.getD, hik]

theorem rowAt_drop {w : World} {g n cap k c' : Nat} {l : List Int} (h : RowAt w (.slice (some ⟨g, 0, none⟩) n cap) l) (hl : l.length = n) (hk : k ≤ n) : RowAt w (.slice (some ⟨g, k, none⟩) (n - k) c') (l.drop k) := by
  have hlk : (l.drop k).length = n - k := by simp; omega
  rcases h with ⟨rfl, ao, c, hv⟩ | ⟨b, o, c, hv, hlt, hc⟩
  · have : n = 0 := by simp at hl; omega
    subst this
    exact Or.inl ⟨by simp, _, _, by simp; exact ⟨rfl, rfl⟩⟩
  · simp only [Value.slice.injEq, Option.some.injEq, Addr.mk.injEq, and_true] at hv
    obtain ⟨⟨rfl, rfl⟩, _, rfl⟩ := hv
    refine Or.inr ⟨g, k, c', by rw [hlk], hlt, fun i hi => ?_⟩
    have := hc (k + i) (by omega)
    rw [Nat.zero_add] at this
    rw [this]
    simp [List.getD, List.getElem?_drop]

theorem rowAt_nil (w : World) (ao : Option Addr) (cap : Nat) : RowAt w (.slice ao 0 cap) [] := Or.inl ⟨rfl, ao, cap, rfl⟩

/-- The numbers of l at the places of o. -/
def at' (l : List Int) (o : List Nat) : List Int := o.map fun i => l.getD i 0

theorem at_snoc (l : List Int) (o : List Nat) (j : Nat) (hj : j < o.length) : cellsI (at' l (o.take j)) ++ [.int .i64 (l.getD o[j] 0)] = cellsI (at' l (o.take (j + 1))) := by
  rw [List.take_succ_eq_append_getElem hj]
  unfold cellsI at'
  rw [List.map_append, List.map_append]
  rfl

theorem at_perm {l : List Int} {o : List Nat} (h : o.Perm (List.range l.length)) : (at' l o).Perm l := by
  have := h.map fun i => l.getD i 0
  rw [list_getD_range] at this
  exact this

set_option maxRecDepth 100000 in
set_option maxHeartbeats 4000000 in
theorem msums_any (v : Value) (n : Nat) (w : World) (hi : IntsAt w v n w.heap.size) (hn : n ≤ 9223372036854775807) :
    Calls Try.prog 5 #[v] w fun e w' => e = .returned (.bool true) ∧ Below w.heap.size w w' := by
  obtain ⟨i0, hi0, hz0, hz1, hz2⟩ := info_parts Try.infoInt
  have HNEW := Lib.hid (New_any v n w hi hn)
  clear hi hn
  go_enter Try.func5, Try.ntmps5
  go_wp2_with fail
  refine (HNEW.out).mono ?_
  rintro e w1 ⟨rfl, t1, b1⟩
  clear HNEW
  obtain ⟨tb, htb⟩ : ∃ tb, tb = w.heap.size := ⟨_, rfl⟩
  rw [← htb] at t1 b1 ⊢
  have HTB := Lib.hid htb
  clear htb
  go_wp2_with fail
  refine (N_any tb 12 _ t1 (by omega) (by omega)).mono ?_
  rintro e w2 ⟨r1, rfl, r10, r11, t2, g2⟩
  have b2 := b1.grown g2 (by have := t1.lt; omega) (by simp)
  clear t1 b1 g2
  obtain ⟨i6, rfl⟩ : ∃ i : Nat, r1 = i := ⟨r1.toNat, by omega⟩
  go_wp2_with fail
  have w0 : LInv small w tb [] (.slice none 0 0) w2 := ⟨by simp, World.ownsRow_nil _ _ _ _, t2, b2⟩
  have hi6 : i6 ≤ 11 := by omega
  clear t2 b2 r10 r11
  go_loopw [4, 6] (fun wv iv wr => ∃ (l : List Int) (i : Nat), iv = .int .i64 i ∧ l.length + i ≤ 11 ∧ LInv small w tb l wv wr) (fun _ iv _ => (intOf iv).toNat)
  case atStart => exact ⟨[], i6, rfl, by simpa using hi6, w0⟩
  case round =>
    clear w0 hi6
    obtain ⟨l, i, rfl, hli, hinv⟩ := hrel
    by_cases hpos : 0 < i
    · go_wp2_with fail
      refine (Pick_new tb 2 [-1, 1] _ _ _ rfl hinv.tape (by simp) (by simp) 2 rfl).mono ?_
      rintro e w1 ⟨x1, rfl, hx1, t1, g1⟩
      have h1 := (hinv.alloc _).grown t1 g1
      clear hinv t1 g1
      go_wp2_with fail
      refine (N_any tb 1000 _ h1.tape (by omega) (by omega)).mono ?_
      rintro e w2 ⟨s1, rfl, s10, s11, t2, g2⟩
      have h2 := h1.grown t2 g2
      clear h1 t2 g2
      go_wp2_with fail
      refine (N_any tb 1000000000 _ h2.tape (by omega) (by omega)).mono ?_
      rintro e w3 ⟨s2, rfl, s20, s21, t3, g3⟩
      have h3 := h2.grown t3 g3
      clear h2 t3 g3
      go_wp2_with fail
      refine (Pick_new tb 3 [s1, 1000000000000, s2] _ _ _ rfl h3.tape (by simp) (by simp) 3 rfl).mono ?_
      rintro e w4 ⟨x2, rfl, hx2, t4, g4⟩
      have h4 := (h3.alloc _).grown t4 g4
      have hz : -1000000000000 ≤ x1 * x2 ∧ x1 * x2 ≤ 1000000000000 := by
        simp only [List.mem_cons, List.not_mem_nil, or_false] at hx1 hx2
        rcases hx1 with rfl | rfl <;> omega
      have hown := h4.own
      have hlt := h4.tape.lt
      have H4 := Lib.hid h4
      obtain ⟨hz3, hz4⟩ := hz
      clear h3 t4 g4 h4 hx1 hx2 s10 s11 s20 s21
      go_wp2_with (at_builtin; refine wpList_append_own _ rfl _ _ 22 rfl (tb + 1) 3 i0 (.int .i64 0) 1 8 Try.underlying22 hi0 hz0 hz1 hz2 rfl (by decide) _ _ _ rfl (hown.alloc _) ⟨w4.heap.size, 0, none⟩ 1 1 [.int .i64 (x1 * x2)] rfl rfl (one_new _ _ _ _ rfl) (one_int _ _) (by unfold maxLen; omega) (by omega) (by simp; omega) ?_; intro v' w5 hown5 hgr5 _)
      go_roundw
      case rel => exact ⟨l ++ [x1 * x2], i - 1, by go_num, by simp; omega, H4.out.snoc ⟨hz3, hz4⟩ hown5 ((Below.refl _ _).alloc (Nat.le_refl _) _) hgr5⟩
      case measure => simp [intOf]; omega
    · obtain rfl : i = 0 := by omega
      obtain ⟨m, hm⟩ : ∃ m, m = l.length := ⟨_, rfl⟩
      have hm11 : m ≤ 11 := by omega
      have hown := hinv.own
      rw [← hm] at hown
      obtain ⟨ao, cap, rfl, hcap, hao⟩ := owns_gen hown
      have HM := Lib.hid hm
      have H := Lib.hid hinv
      have hlt := hinv.tape.lt
      clear hm hinv hown hli hpos
      go_wp2_with fail
      refine (Order_any tb m wr H.out.tape (by omega)).mono ?_
      rintro e w1 ⟨ov, o, rfl, hop, hoo, t1, g1⟩
      have h1 : LInv small w tb l (.slice ao m cap) w1 := H.out.grown t1 g1
      obtain ⟨oo, oc, rfl, hoc, hoa⟩ := owns_gen hoo
      have hob : ∀ q, oo = some q → q.block < w1.heap.size := fun q hq => by subst hq; exact (hoo.lt q.block rfl).2
      have hol : o.length = m := by rw [hop.length_eq, List.length_range]
      have HOP := Lib.hid hop
      have HOO := Lib.hid hoo
      have HOL := Lib.hid hol
      have H1 := Lib.hid h1
      have hlt1 := h1.tape.lt
      clear hop hoo t1 g1 h1 hol H hlt
      go_wp2_with fail
      have hm0 : m ≤ 1000 := by omega
      go_loopw [5, 47] (fun mv c wr => ∃ j : Nat, j ≤ m ∧ c = .int .i64 j ∧ wr.ownsRow w1.heap.size 3 1 mv j (cellsI (at' l (o.take j))) ∧ Below w1.heap.size w1 wr) (fun _ c _ => m - (intOf c).toNat)
      case atStart => exact ⟨0, Nat.zero_le _, rfl, World.ownsRow_nil _ _ _ _, Below.refl _ _⟩
      case round =>
        obtain ⟨j, hj, rfl, hmo, hb⟩ := hrel
        have hbs := hb.size
        by_cases hlt : j < m
        · have hao' : ∃ g, ao = some ⟨g, 0, none⟩ := by
            rcases hao with ⟨_, h0, _⟩ | ⟨g, h0, _⟩
            · omega
            · exact ⟨g, h0⟩
          have hoa' : ∃ g, oo = some ⟨g, 0, none⟩ := by
            rcases hoa with ⟨_, h0, _⟩ | ⟨g, h0, _⟩
            · omega
            · exact ⟨g, h0⟩
          obtain ⟨g, rfl⟩ := hao'
          obtain ⟨og, rfl⟩ := hoa'
          have hjo : j < o.length := by have := HOL.out; omega
          obtain ⟨p, hp⟩ : ∃ p, p = o[j] := ⟨_, rfl⟩
          have hpm : p < m := by
            have := List.mem_range.1 (HOP.out.subset (List.getElem_mem hjo))
            rw [hp]; exact this
          obtain ⟨x, hx⟩ : ∃ x, x = l.getD p 0 := ⟨_, rfl⟩
          have hgl : g < w1.heap.size := (H1.out.own.lt g rfl).2
          have hogl : og < w1.heap.size := hob _ rfl
          have hco : wr.cell? ⟨og, j, none⟩ = some (.int .i64 (p : Int)) := by
            rw [hb.cell (by exact hogl), HOO.out.cellAt j (by omega), natCells_get o j hjo, hp]
          have hcl : wr.cell? ⟨g, p, none⟩ = some (.int .i64 x) := by
            have h := H1.out.own
            rw [← HM.out] at h
            rw [hb.cell (by exact hgl), h.cellAt p (by omega), cellsI_get l p (by rw [← HM.out]; exact hpm), hx]
          have hsn := at_snoc l o j hjo
          rw [← hp, ← hx] at hsn
          have HSN := Lib.hid hsn
          have HB := Lib.hid hb
          have HMO := Lib.hid hmo
          clear hp hx hsn hb
          go_wp2_with (at_builtin; refine wpList_append_own _ rfl _ _ 22 rfl w1.heap.size 3 i0 (.int .i64 0) 1 8 Try.underlying22 hi0 hz0 hz1 hz2 rfl (by decide) _ _ _ rfl (hmo.alloc _) ⟨wr.heap.size, 0, none⟩ 1 1 [.int .i64 x] rfl rfl (one_new _ _ _ _ rfl) (one_int _ _) (by unfold maxLen; omega) (by omega) (by simp; omega) ?_; intro v' w5 hown5 hgr5 _)
          go_roundw
          case rel =>
            refine ⟨j + 1, by omega, by go_num, by rw [HSN.out] at hown5; exact hown5, ?_⟩
            exact (HB.out.alloc HB.out.size _).grown hgr5 (by have := HB.out.size; simp; omega) fun r hr => ownBlock_le HMO.out r hr
          case measure => simp [intOf]; omega
        · obtain rfl : j = m := by omega
          have htk : o.take j = o := List.take_of_length_le (by have := HOL.out; omega)
          rw [htk] at hmo
          obtain ⟨mo, mc, rfl, hmc, hma⟩ := owns_gen hmo
          have h2 := H1.out.below hb
          have hperm : (at' l o).Perm l := at_perm (by rw [← HM.out]; exact HOP.out)
          have HPERM := Lib.hid hperm
          have H2 := Lib.hid h2
          have HMO := Lib.hid hmo
          have hlt2 := h2.tape.lt
          clear htk hmo hb h2 hperm
          go_wp2_with fail
          refine (N_any tb ((j : Int) + 1) wr H2.out.tape (by omega) (by omega)).mono ?_
          rintro e w3 ⟨k0, rfl, k00, k01, t3, g3⟩
          obtain ⟨k, rfl⟩ : ∃ k : Nat, k0 = k := ⟨k0.toNat, by omega⟩
          have hkj : k ≤ j := by omega
          have h3 := H2.out.grown t3 g3
          have hmo3 := HMO.out.kept g3 (ownBlock_ne HMO.out tb (by omega))
          clear t3 g3 k00 k01
          go_wp2_with fail
          obtain ⟨s, hs⟩ : ∃ s, s = sumI l := ⟨_, rfl⟩
          obtain ⟨s1, hs1⟩ : ∃ s, s = sumI (l.take k) := ⟨_, rfl⟩
          obtain ⟨s2, hs2⟩ : ∃ s, s = sumI (l.drop k) := ⟨_, rfl⟩
          have hss : s1 + s2 = s := by rw [hs, hs1, hs2, ← sumI_append, List.take_append_drop]
          have hjl : l.length = j := HM.out.symm
          have hbd := h3.bd
          have hr1 := RowAt.owns h3.own
          have hr2 : RowAt w3 (.slice mo j mc) (at' l o) := RowAt.owns hmo3
          have hbm : ∀ x ∈ at' l o, small x := fun x hx => hbd x (HPERM.out.subset hx)
          have c1 := Sum_small _ l s w3 hr1 hbd (by omega) hs.symm
          have c2 := Sum_small _ (at' l o) s w3 hr2 hbm (by rw [HPERM.out.length_eq]; omega) (by rw [sumI_perm HPERM.out]; exact hs.symm)
          have q1 := small_sum (l := l.take k) fun x hx => hbd x (List.mem_of_mem_take hx)
          have q2 := small_sum (l := l.drop k) fun x hx => hbd x (List.mem_of_mem_drop hx)
          have q3 : (l.take k).length ≤ 11 := by simp; omega
          have q4 : (l.drop k).length ≤ 11 := by simp; omega
          have hok : addOk s1 s2 = true := by
            unfold addOk
            rw [tot_iff.2 (by omega), tot_iff.2 (by omega), tot_iff.2 (by omega)]
            rfl
          have c5 := Add_yes s1 s2 w3 hok
          rw [hss] at c5
          have hse : (s == s) = true := beq_self_eq_true s
          have HAW := Lib.hid (awake_any w3)
          have hfin : Below w.heap.size w w3 := by
            have e1 := h3.old
            rw [HTB.out] at e1
            exact e1
          have c3 : ∀ v, RowAt w3 v (l.take k) → Calls Try.prog 21 #[v] w3 fun e w' => e = .returned (.tuple #[.int .i64 s1, .int .i64 0]) ∧ w3 = w' := fun v hv => Sum_small v (l.take k) s1 w3 hv (fun x hx => hbd x (List.mem_of_mem_take hx)) (by omega) hs1.symm
          have c4 : ∀ v, RowAt w3 v (l.drop k) → Calls Try.prog 21 #[v] w3 fun e w' => e = .returned (.tuple #[.int .i64 s2, .int .i64 0]) ∧ w3 = w' := fun v hv => Sum_small v (l.drop k) s2 w3 hv (fun x hx => hbd x (List.mem_of_mem_drop hx)) (by omega) hs2.symm
          have C1 := Lib.hid c1
          have C2 := Lib.hid c2
          have C3 := Lib.hid c3
          have C4 := Lib.hid c4
          have C5 := Lib.hid c5
          have HR1 := Lib.hid hr1
          have HFIN := Lib.hid hfin
          have HJL := Lib.hid hjl
          clear hs hs1 hs2 hss hjl hbd hr1 hr2 hbm c1 c2 c3 c4 c5 q1 q2 q3 q4 hok hfin h3 hmo3
          have HR1' : Hid (RowAt w3 (.slice ao j cap) l) := HR1
          have hcases : (ao = none ∧ j = 0 ∧ cap = 0 ∧ k = 0) ∨ (∃ g, ao = some ⟨g, 0, none⟩ ∧ cap = k ∧ j = k) ∨ (∃ g, ao = some ⟨g, 0, none⟩ ∧ k < cap) := by
            rcases hao with ⟨e1, e2, e3⟩ | ⟨g, e1, _⟩
            · exact Or.inl ⟨e1, e2, e3, by omega⟩
            · by_cases e : cap = k
              · exact Or.inr (Or.inl ⟨g, e1, e, by omega⟩)
              · exact Or.inr (Or.inr ⟨g, e1, by omega⟩)
          refine (C1.out).mono ?_
          rintro e w' ⟨rfl, rfl⟩
          go_wp2_with fail
          refine (C2.out).mono ?_
          rintro e w' ⟨rfl, rfl⟩
          rcases hcases with ⟨rfl, rfl, rfl, rfl⟩ | ⟨g, rfl, rfl, rfl⟩ | ⟨g, rfl, hck⟩
          · have e1 : l = [] := List.length_eq_zero_iff.1 HJL.out
            have r1 : RowAt w3 (.slice none 0 0) (l.take 0) := rowAt_nil _ _ _
            have r2 : RowAt w3 (.slice none 0 0) (l.drop 0) := by rw [e1]; exact rowAt_nil _ _ _
            have C3' := Lib.hid (C3.out _ r1)
            have C4' := Lib.hid (C4.out _ r2)
            clear e1 r1 r2
            go_wp2_with fail
            refine (C3'.out).mono ?_
            rintro e w' ⟨rfl, rfl⟩
            go_wp2_with fail
            refine (C4'.out).mono ?_
            rintro e w' ⟨rfl, rfl⟩
            go_wp2_with fail
            refine (C5.out).mono ?_
            rintro e w' ⟨rfl, rfl⟩
            go_wp2_with (go_at_call 7; refine (HAW.out).mono ?_; rintro e w6 ⟨rfl, hb6⟩)
            go_ret
            exact ⟨rfl, HFIN.out.trans (hb6.mono (by have := HFIN.out.size; exact this))⟩
          · have r1 : RowAt w3 (.slice (some ⟨g, 0, none⟩) j j) (l.take j) := rowAt_take HR1'.out HJL.out (Nat.le_refl _)
            have r2 : RowAt w3 (.slice (some ⟨g, 0, none⟩) 0 0) (l.drop j) := by rw [List.drop_eq_nil_of_le (by rw [HJL.out]; exact Nat.le_refl _)]; exact rowAt_nil _ _ _
            have C3' := Lib.hid (C3.out _ r1)
            have C4' := Lib.hid (C4.out _ r2)
            clear r1 r2
            go_wp2_with fail
            refine (C3'.out).mono ?_
            rintro e w' ⟨rfl, rfl⟩
            go_wp2_with fail
            refine (C4'.out).mono ?_
            rintro e w' ⟨rfl, rfl⟩
            go_wp2_with fail
            refine (C5.out).mono ?_
            rintro e w' ⟨rfl, rfl⟩
            go_wp2_with (go_at_call 7; refine (HAW.out).mono ?_; rintro e w6 ⟨rfl, hb6⟩)
            go_ret
            exact ⟨rfl, HFIN.out.trans (hb6.mono (by have := HFIN.out.size; exact this))⟩
          · have r1 : RowAt w3 (.slice (some ⟨g, 0, none⟩) k cap) (l.take k) := rowAt_take HR1'.out HJL.out hkj
            have r2 : RowAt w3 (.slice (some ⟨g, k, none⟩) (j - k) (cap - k)) (l.drop k) := rowAt_drop HR1'.out HJL.out hkj
            have hck' : ¬ cap = k := by omega
            have C3' := Lib.hid (C3.out _ r1)
            have C4' := Lib.hid (C4.out _ r2)
            clear r1 r2
            go_wp2_with fail
            refine (C3'.out).mono ?_
            rintro e w' ⟨rfl, rfl⟩
            go_wp2_with fail
            refine (C4'.out).mono ?_
            rintro e w' ⟨rfl, rfl⟩
            go_wp2_with fail
            refine (C5.out).mono ?_
            rintro e w' ⟨rfl, rfl⟩
            go_wp2_with (go_at_call 7; refine (HAW.out).mono ?_; rintro e w6 ⟨rfl, hb6⟩)
            go_ret
            exact ⟨rfl, HFIN.out.trans (hb6.mono (by have := HFIN.out.size; exact this))⟩

end Go.Proofs.Ytbndcjbnpgdpjaa
