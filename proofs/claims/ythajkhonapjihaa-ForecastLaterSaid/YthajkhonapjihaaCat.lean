/- slices.Grow of nothing, slices.Concat of two lists of flows, forecast.Merge of two lists. -/
import Derived.Test.YthajkhonapjihaaSrtS
import Derived.Test.YthajkhonapjihaaStepW
import Derived.Lib.AppendZeros
import Derived.Deep.Upon
set_option linter.unusedSimpArgs false
set_option linter.unusedVariables false
namespace Go.Proofs.Ythajkhonapjihaa
open Go.RowKit Go.Lib Go.Proofs

theorem new_row (w : World) (c : Nat) (hc : c ≤ maxLen) (xs : Array Value) (hx : xs.size = c * 4) (e : TypeId) : (w.drew.alloc (.cells xs e)).ownsRow w.heap.size e 4 (.slice (some ⟨w.heap.size, 0, none⟩) 0 c) 0 [] :=
  ⟨rfl, Or.inr ⟨w.heap.size, c, xs, rfl, Nat.le_refl _, heap_alloc_new w.drew _, Nat.zero_le _, hc, hx, by simp⟩⟩

set_option maxHeartbeats 4000000 in
theorem GrowFlow_nil (n : Nat) (hn : n ≤ 1000) (w : World) : Calls Try.prog 36 #[.slice none 0 0, .int .i64 n] w fun e w' => ∃ v, e = .returned v ∧ w'.ownsRow w.heap.size 38 4 v 0 [] ∧ Below w.heap.size w w' := by
  obtain ⟨i0, hi0, hz0, hz1, hz2⟩ := info_parts Try.infoFlow
  by_cases h0 : n = 0
  · subst h0
    go_enter Try.func36, Try.ntmps36
    go_wp2
    go_ret
    exact ⟨_, rfl, World.ownsRow_nil _ _ _ _, Below.refl _ _⟩
  · have hp : (0 : Int) < (n : Int) := by omega
    have hp0 : ¬ (n : Int) < 0 := by omega
    have hw : IntKind.i64.wrap (n : Int) = (n : Int) := by rw [IntKind.wrap_i64]; omega
    have hcap := Lib.hid (grownCap_ge w n 0 38)
    have hmax := Lib.hid (grownCap_le_maxLen w n 0 38 (by unfold maxLen; omega))
    have hrun := fun ty => run_append_nil_zeros (P := Try.prog) w 25 3 ty 38 i0 _ .i64 .i64 Try.underlying25 Try.underlying3 hi0 hz0 n (by omega) (by omega) (by omega) (by rw [hz2]; omega)
    obtain ⟨c, hc⟩ : ∃ c, c = grownCap w n 0 38 := ⟨_, rfl⟩
    rw [← hc] at hcap hmax hrun
    have HRUN := Lib.hid hrun
    have HROW := Lib.hid (new_row w c hmax.out (Builtin.zeroCells (Value.agg #[.int .i64 0, .int .i64 0, .int .i64 0, .int .i64 0]).cells n ++ Builtin.zeroCells (Value.agg #[.int .i64 0, .int .i64 0, .int .i64 0, .int .i64 0]).cells (c - n)) (by rw [Array.size_append, size_zeroCells, size_zeroCells]; have := hcap.out; show n * 4 + (c - n) * 4 = c * 4; omega) 38)
    have HB := Lib.hid (((Below.refl w.heap.size w).drew).alloc (show w.heap.size ≤ w.drew.heap.size from Nat.le_refl _) (.cells (Builtin.zeroCells (Value.agg #[.int .i64 0, .int .i64 0, .int .i64 0, .int .i64 0]).cells n ++ Builtin.zeroCells (Value.agg #[.int .i64 0, .int .i64 0, .int .i64 0, .int .i64 0]).cells (c - n)) 38))
    generalize w.drew.alloc (.cells (Builtin.zeroCells (Value.agg #[.int .i64 0, .int .i64 0, .int .i64 0, .int .i64 0]).cells n ++ Builtin.zeroCells (Value.agg #[.int .i64 0, .int .i64 0, .int .i64 0, .int .i64 0]).cells (c - n)) 38) = w1 at *
    have hcn : n ≤ c := hcap.out
    have hci : (0 : Int) ≤ (c : Int) := by omega
    clear hrun hc hcap hmax
    go_enter Try.func36, Try.ntmps36
    go_wp2_with (at_builtin; refine Lib.wpList_append_run _ rfl _ _ _ _ rfl _ _ rfl rfl _ _ (HRUN.out _) ?_)
    go_ret
    exact ⟨_, rfl, HROW.out, HB.out⟩

/-- An append of a whole slice, empty or not, onto a row of the call's own. -/
theorem run_append_ownO {P : Program} (w : World) (base : Nat) (t ty e : TypeId) (i : TypeInfo) (z : Value) (size bytes : Nat) (ht : P.underlying t = some (.slice e)) (hi : P.info? e = some i) (hz : i.zero = some z)
    (hsize : i.size = size) (hby : i.bytes = bytes) (hzs : z.cells.size = size) (hsz : 0 < size)
    (v : Value) (n : Nat) (xs : List Value) (hown : w.ownsRow base e size v n xs)
    (ao : Option Addr) (m c : Nat) (news : List Value) (hl : news.length = m * size) (hnews : m = 0 ∨ ∃ ad : Addr, ao = some ad ∧ ∀ j u, news[j]? = some u → w.cell? (ad.add j) = some u) (h1 : ∀ u ∈ news, u.oneCell' = true)
    (h63 : n + m ≤ maxLen) (hbytes : (n + m) * bytes ≤ 140737488355328) (hbase : base ≤ w.heap.size) :
    ∃ v' w', (Builtin.append_ #[t, t] ty #[v, .slice ao m c]).run P w = .ok v' w' ∧ w'.ownsRow base e size v' (n + m) (xs ++ news) ∧ w.grownBy w' v.ownBlock := by
  by_cases hm : m = 0
  · subst hm
    have hnl : news = [] := List.length_eq_zero_iff.1 (by omega)
    subst hnl
    obtain ⟨a', cap, rfl, hle, _⟩ := owns_gen hown
    refine ⟨_, w, run_append_nothing w t t ty e i ht hi a' n cap hle (.slice ao 0 c) ?_, by simpa using hown, grownBy_refl w _⟩
    cases ao with
    | none => exact Src.ofNil w ht c
    | some a => exact Src.ofSlice w ht a 0 c [] (by simp) (by simp) (by simp)
  · obtain ⟨ad, rfl, hc⟩ := hnews.resolve_left hm
    obtain ⟨v', w', hr, h2, h3, _⟩ := run_append_own_at (P := P) w base t ty e i z size bytes ht hi hz hsize hby hzs hsz v n xs hown ad m c news hl hc h1 h63 hbytes hbase
    exact ⟨v', w', hr, h2, h3⟩

theorem wpList_ownO {P : Program} (w : World) {ops : Array Oper} {rest : List Oper} {o : Oper} {a : Act} {Q : Exit → Act → World → Prop} (hw : Region.wanted o (yielded ops a.tmps) = true) (s x : Operand) (t : TypeId)
    (ho : o.op = .call { callee := .builtin .append, args := #[s, x], argTypes := #[t, t] })
    (base : Nat) (e : TypeId) (i : TypeInfo) (z : Value) (size bytes : Nat) (ht : P.underlying t = some (.slice e)) (hi : P.info? e = some i) (hz : i.zero = some z)
    (hsize : i.size = size) (hby : i.bytes = bytes) (hzs : z.cells.size = size) (hsz : 0 < size)
    (v : Value) (n : Nat) (xs : List Value) (hs : a.eval s = v) (hown : w.ownsRow base e size v n xs)
    (ao : Option Addr) (m c : Nat) (news : List Value) (hx : a.eval x = .slice ao m c) (hl : news.length = m * size) (hnews : m = 0 ∨ ∃ ad : Addr, ao = some ad ∧ ∀ j u, news[j]? = some u → w.cell? (ad.add j) = some u) (h1 : ∀ u ∈ news, u.oneCell' = true)
    (h63 : n + m ≤ maxLen) (hbytes : (n + m) * bytes ≤ 140737488355328) (hbase : base ≤ w.heap.size)
    (h : ∀ v' w', w'.ownsRow base e size v' (n + m) (xs ++ news) → w.grownBy w' v.ownBlock → wpList P ops Q rest (a.put o.dst v') w') :
    wpList P ops Q (o :: rest) a w :=
  wpList_step fun K hK => by
    rw [if_pos hw]
    obtain ⟨v', w', hr, h2, h3⟩ := run_append_ownO (P := P) w base t o.type e i z size bytes ht hi hz hsize hby hzs hsz v n xs hown ao m c news hl hnews h1 h63 hbytes hbase
    unfold Oper.wp execOp
    simp only [ho, resolve, invoke, builtin, Sem.run_bind, Sem.run_pure, Result.andThen_ok, List.map_toArray, List.map_cons, List.map_nil, hs, hx, hr]
    exact hK _ _ (h v' w' h2 h3)

/-- What a list's slice brings to an append. -/
theorem ListAt.news {α : Type} {f : α → List Value} {m : Nat} (hf : Fields f m) {w : World} {v : Value} {l : List α} (h : ListAt f m w v l) : ∃ ao cap, v = .slice ao l.length cap ∧ (l.length = 0 ∨ ∃ ad : Addr, ao = some ad ∧ ∀ j u, (cellsL f l)[j]? = some u → w.cell? (ad.add j) = some u) := by
  obtain ⟨ao, cap, rfl, hcap, hc⟩ := h.shape hf
  refine ⟨ao, cap, rfl, ?_⟩
  by_cases h0 : l.length = 0
  · exact Or.inl h0
  · obtain ⟨b, o, rfl, hb, hcc⟩ := hc (by omega)
    refine Or.inr ⟨_, rfl, fun j u hj => ?_⟩
    rw [Addr.add_lit]
    have hm : 0 < m := hf.pos
    have hj2 : j < l.length * m := by have := (List.getElem?_eq_some_iff.1 hj).1; rw [cellsL_len hf] at this; exact this
    have hd : j / m < l.length := Nat.div_lt_of_lt_mul (by rw [Nat.mul_comm]; exact hj2)
    have hr : j % m < m := Nat.mod_lt _ hm
    have he : j / m * m + j % m = j := by rw [Nat.mul_comm]; exact Nat.div_add_mod j m
    have h2 := hcc (j / m) hd (j % m) hr
    have h3 := cellsL_get hf l (j / m) (j % m) hd hr
    rw [he] at h3
    rw [show o + j = o + j / m * m + j % m by omega, h2, ← h3, hj]

theorem newsOf {α : Type} {f : α → List Value} {m : Nat} (hf : Fields f m) {w : World} {ao : Option Addr} {n c : Nat} {l : List α} (h : ListAt f m w (.slice ao n c) l) : n = 0 ∨ ∃ ad : Addr, ao = some ad ∧ ∀ j u, (cellsL f l)[j]? = some u → w.cell? (ad.add j) = some u := by
  obtain ⟨ao', c', he, hh⟩ := h.news hf
  simp only [Value.slice.injEq] at he
  obtain ⟨rfl, rfl, rfl⟩ := he
  exact hh

set_option maxHeartbeats 8000000 in
theorem ConcatFlow_any (A B : List Flw) (hlA : A.length ≤ 100) (hlB : B.length ≤ 100) (va vb : Value) (g cap : Nat) (w : World) (h0 : w.cell? ⟨g, 0, none⟩ = some va) (h1 : w.cell? ⟨g, 1, none⟩ = some vb) (hA : ListAt flowC 4 w va A) (hB : ListAt flowC 4 w vb B) :
    Calls Try.prog 23 #[.slice (some ⟨g, 0, none⟩) 2 cap] w fun e w' => ∃ v, e = .returned v ∧ w'.ownsRow w.heap.size 38 4 v (A.length + B.length) (cellsL flowC (A ++ B)) ∧ Below w.heap.size w w' := by
  obtain ⟨i0, hi0, hz0, hz1, hz2⟩ := info_parts Try.infoFlow
  have hgl : g < w.heap.size := by
    rcases Nat.lt_or_ge g w.heap.size with h | h
    · exact h
    · simp [World.cell?, Array.getElem?_eq_none h] at h0
  obtain ⟨ao, ca, rfl, hna⟩ := hA.news flowF
  obtain ⟨bo, cb, rfl, hnb⟩ := hB.news flowF
  have HNA := Lib.hid (fun W (hW : Below w.heap.size w W) => newsOf flowF (hA.below hW))
  have HNB := Lib.hid (fun W (hW : Below w.heap.size w W) => newsOf flowF (hB.below hW))
  have HLA := Lib.hid (cellsL_len flowF A)
  have HLB := Lib.hid (cellsL_len flowF B)
  obtain ⟨m, hm⟩ : ∃ m, m = A.length := ⟨_, rfl⟩
  obtain ⟨n, hn⟩ : ∃ n, n = B.length := ⟨_, rfl⟩
  have HM := Lib.hid hm
  have HN := Lib.hid hn
  rw [← hm] at hlA HNA HLA h0 ⊢
  rw [← hn] at hlB HNB HLB h1 ⊢
  have HG := Lib.hid (fun W => GrowFlow_nil (m + n) (by omega) W)
  rw [Int.natCast_add] at HG
  have HC : Hid (∀ W, Below w.heap.size w W → W.cell? ⟨g, 0, none⟩ = some (.slice ao m ca) ∧ W.cell? ⟨g, 1, none⟩ = some (.slice bo n cb)) := Lib.hid fun W hW => ⟨(hW.cell (p := ⟨g, 0, none⟩) hgl).trans h0, (hW.cell (p := ⟨g, 1, none⟩) hgl).trans h1⟩
  clear hA hB hna hnb hm hn
  go_enter Try.func23, Try.ntmps23
  go_wp2
  go_loopw [3, 11] (fun sv iv wr => ∃ (k sz : Nat), iv = .int .i64 (k : Int) ∧ sv = .int .i64 (sz : Int) ∧ k ≤ 2 ∧ Hid ((k = 0 → sz = 0) ∧ (k = 1 → sz = m) ∧ (k = 2 → sz = m + n)) ∧ w = wr) (fun _ iv _ => 2 - (RowKit.intOf iv).toNat)
  case atStart => exact ⟨0, 0, rfl, rfl, by omega, Lib.hid ⟨fun _ => rfl, by omega, by omega⟩, rfl⟩
  case round =>
    obtain ⟨k, sz, rfl, rfl, hk, HS, rfl⟩ := hrel
    have hs := HS.out
    rcases (show k = 0 ∨ k = 1 ∨ k = 2 by omega) with rfl | rfl | rfl
    · obtain rfl : sz = 0 := hs.1 rfl
      clear hs
      go_wp2
      go_roundw
      case rel => exact ⟨1, m, rfl, by first | rfl | go_num, by omega, Lib.hid ⟨by omega, fun _ => rfl, by omega⟩, by first | trivial | rfl⟩
      case measure => simp [RowKit.intOf]
    · obtain rfl : sz = m := hs.2.1 rfl
      clear hs
      go_wp2
      go_roundw
      case rel => exact ⟨2, sz + n, rfl, by first | rfl | go_num, by omega, Lib.hid ⟨by omega, by omega, fun _ => rfl⟩, by first | trivial | rfl⟩
      case measure => simp [RowKit.intOf]
    · obtain rfl : sz = m + n := hs.2.2 rfl
      clear hs h0 h1
      go_wp2_with fail
      with_reducible refine Calls.mono (HG.out _) ?_
      rintro e w1 ⟨v1, rfl, ho1, b1⟩
      have HO1 := Lib.hid ho1
      have HB1 := Lib.hid b1
      clear ho1 b1
      go_wp2
      go_loopw [6, 27] (fun nv iv wr => ∃ (k q : Nat) (L : List Flw), iv = .int .i64 (k : Int) ∧ k ≤ 2 ∧ Hid ((k = 0 → L = [] ∧ q = 0) ∧ (k = 1 → L = A ∧ q = m) ∧ (k = 2 → L = A ++ B ∧ q = m + n)) ∧ Hid (wr.ownsRow w.heap.size 38 4 nv q (cellsL flowC L)) ∧ Hid (Below w.heap.size w wr)) (fun _ iv _ => 2 - (RowKit.intOf iv).toNat)
      case atStart => exact ⟨0, 0, [], rfl, by omega, Lib.hid ⟨fun _ => ⟨rfl, rfl⟩, by omega, by omega⟩, HO1, HB1⟩
      case round =>
        clear HO1 HB1
        obtain ⟨k, q, L, rfl, hk, HL, HO, HB⟩ := hrel
        have hl := HL.out
        have hcc := HC.out _ HB.out
        obtain ⟨q0, q1⟩ := hcc
        rcases (show k = 0 ∨ k = 1 ∨ k = 2 by omega) with rfl | rfl | rfl
        · obtain ⟨rfl, rfl⟩ := hl.1 rfl
          clear hl
          go_wp2_with (at_builtin; go_loud (refine wpList_ownO _ (by rfl) _ _ 25 (by rfl) w.heap.size 38 i0 (.agg #[.int .i64 0, .int .i64 0, .int .i64 0, .int .i64 0]) 4 32 Try.underlying25 hi0 hz0 hz1 hz2 (by rfl) (by decide) _ _ _ (by rfl) HO.out _ _ _ (cellsL flowC A) (by rfl) HLA.out (HNA.out _ HB.out) (cellsL_one flowF _) (by unfold maxLen; omega) (by omega) HB.out.size ?_); intro v8 w8 hown8 hgr8; (have hb8 : Below w.heap.size w w8 := HB.out.trans ⟨hgr8.os, hgr8.tape, hgr8.output, hgr8.size, fun k hk => hgr8.block k (Nat.lt_of_lt_of_le hk HB.out.size) (fun e => absurd (ownBlock_le HO.out k e.symm) (by omega))⟩); (have HO8 := Lib.hid hown8); (have HB8 := Lib.hid hb8); clear hown8 hgr8 hb8)
          go_roundw
          case rel => exact ⟨1, m, A, by first | rfl | go_num, by omega, Lib.hid ⟨by omega, fun _ => ⟨rfl, rfl⟩, by omega⟩, Lib.hid (by have := HO8.out; simpa [cellsL] using this), HB8⟩
          case measure => simp [RowKit.intOf]
        · obtain ⟨rfl, rfl⟩ := hl.2.1 rfl
          clear hl
          go_wp2_with (at_builtin; go_loud (refine wpList_ownO _ (by rfl) _ _ 25 (by rfl) w.heap.size 38 i0 (.agg #[.int .i64 0, .int .i64 0, .int .i64 0, .int .i64 0]) 4 32 Try.underlying25 hi0 hz0 hz1 hz2 (by rfl) (by decide) _ _ _ (by rfl) HO.out _ _ _ (cellsL flowC B) (by rfl) HLB.out (HNB.out _ HB.out) (cellsL_one flowF _) (by unfold maxLen; omega) (by omega) HB.out.size ?_); intro v8 w8 hown8 hgr8; (have hb8 : Below w.heap.size w w8 := HB.out.trans ⟨hgr8.os, hgr8.tape, hgr8.output, hgr8.size, fun k hk => hgr8.block k (Nat.lt_of_lt_of_le hk HB.out.size) (fun e => absurd (ownBlock_le HO.out k e.symm) (by omega))⟩); (have HO8 := Lib.hid hown8); (have HB8 := Lib.hid hb8); clear hown8 hgr8 hb8)
          go_roundw
          case rel => exact ⟨2, q + n, L ++ B, by first | rfl | go_num, by omega, Lib.hid ⟨by omega, by omega, fun _ => ⟨rfl, rfl⟩⟩, Lib.hid (by have := HO8.out; rw [cellsL_app]; exact this), HB8⟩
          case measure => simp [RowKit.intOf]
        · obtain ⟨rfl, rfl⟩ := hl.2.2 rfl
          clear hl
          go_wp2
          go_ret
          exact ⟨_, rfl, HO.out, HB.out⟩

/-- What Merge hands back. -/
def MergePost (A B : List Flw) (w : World) (e : Ending) (w' : World) : Prop :=
  ∃ v, e = .returned (.tuple #[v, .int .i64 0]) ∧ ∃ l' : List Flw, l'.Perm (A ++ B) ∧ l'.Pairwise flowLe ∧ w'.ownsRow w.heap.size 38 4 v (A.length + B.length) (cellsL flowC l') ∧ Below w.heap.size w w'

set_option maxHeartbeats 4000000 in
theorem fcMerge_ok {D : Int} (hD : D ≤ 36000) (A B : List Flw) (hoA : FlwsOk D A) (hoB : FlwsOk D B) (hlA : A.length ≤ 9) (hlB : B.length ≤ 9) (va vb : Value) (g cap : Nat) (w : World) (h0 : w.cell? ⟨g, 0, none⟩ = some va) (h1 : w.cell? ⟨g, 1, none⟩ = some vb) (hA : ListAt flowC 4 w va A) (hB : ListAt flowC 4 w vb B) :
    Calls Try.prog 15 #[.slice (some ⟨g, 0, none⟩) 2 cap] w (MergePost A B w) := by
  have HCC := Lib.hid (ConcatFlow_any A B (by omega) (by omega) va vb g cap w h0 h1 hA hB)
  have HOK : Hid (FlwsOk D (A ++ B)) := Lib.hid fun f hf => by
    rcases List.mem_append.1 hf with h | h
    · exact hoA f h
    · exact hoB f h
  have HLEN := Lib.hid (show (A ++ B).length = A.length + B.length from List.length_append)
  have HD := Lib.hid hD
  obtain ⟨n, hn⟩ : ∃ n, n = A.length + B.length := ⟨_, rfl⟩
  unfold MergePost
  rw [← hn] at HCC HLEN ⊢
  have hn18 : n ≤ 18 := by omega
  generalize A ++ B = L at *
  clear h0 h1 hA hB hn hoA hoB hlA hlB hD
  go_enter Try.func15, Try.ntmps15
  go_wp2_with fail
  with_reducible refine Calls.mono (HCC.out) ?_
  rintro e w1 ⟨v, rfl, ho1, b1⟩
  have HO1 := Lib.hid ho1
  have HB1 := Lib.hid b1
  have HCK := Lib.hid (fcCheck_ok HD.out HOK.out (by rw [HLEN.out]; omega) v w1 (ListAt.owns (by rw [HLEN.out]; exact ho1)))
  clear ho1 b1 HCC
  go_wp2_with fail
  with_reducible refine Calls.mono (HCK.out) ?_
  rintro e w2 ⟨rfl, b2⟩
  have HO2 := Lib.hid (ownsRow_below HO1.out b2)
  have HB2 := Lib.hid (HB1.out.trans (b2.mono HB1.out.size))
  have HOR := Lib.hid (ordered_any L (by rw [HLEN.out]; omega) v w.heap.size w2 (by rw [HLEN.out]; exact HO2.out) HB2.out.size)
  clear b2 HCK HO1 HB1
  go_wp2_with fail
  with_reducible refine Calls.mono (HOR.out) ?_
  rintro e w3 ⟨v3, rfl, l', h1, h2, h3, h4⟩
  have H3 := Lib.hid h3
  have H1 := Lib.hid h1
  have H2 := Lib.hid h2
  have H4 := Lib.hid h4
  clear h1 h2 h3 h4 HOR
  go_wp2
  go_ret2
  exact ⟨_, rfl, l', H1.out, H2.out, by have := H3.out; rw [HLEN.out] at this; exact this, HB2.out.trans H4.out⟩

end Go.Proofs.Ythajkhonapjihaa
