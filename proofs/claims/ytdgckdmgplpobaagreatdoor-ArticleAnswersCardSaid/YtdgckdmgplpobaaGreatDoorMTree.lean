/- The contract of treasurymake.Tree: a valid classification whose codes are in order and closed under parents; only the tape's place has turned; for up to 60 codes more. -/
import Derived.Test.YtdgckdmgplpobaaGreatDoorMG3
set_option linter.unusedSimpArgs false
set_option linter.unusedVariables false
namespace Go.Proofs.YtdgckdmgplpobaaGreatDoor
open Go.RowKit Go.Lib Go.Proofs

structure TrInv (w : World) (tb : Nat) (ls : List (List Nat)) (v : Value) (W : World) : Prop where
  tape : TapeAt W tb
  row : W.ownsRow w.heap.size 9 1 v ls.length (cellsS (texts ls))
  old : w.grownBy W (some tb)
  ok : TreeOk ls

theorem TrInv.turn {w : World} {tb : Nat} {ls : List (List Nat)} {v : Value} {A B : World} (h : TrInv w tb ls v A) (ht : TapeAt B tb) (hg : A.grownBy B (some tb)) (hlt : tb < w.heap.size) : TrInv w tb ls v B :=
  ⟨ht, h.row.kept hg (ownBlock_ne h.row tb hlt), grownBy_trans h.old hg, h.ok⟩
theorem TrInv.below {w : World} {tb : Nat} {ls : List (List Nat)} {v : Value} {A B : World} (h : TrInv w tb ls v A) (hb : Below A.heap.size A B) : TrInv w tb ls v B :=
  ⟨h.tape.below hb, ownsRow_below h.row hb, grownBy_trans h.old (grownBy_below hb), h.ok⟩

theorem TrInv.other {w : World} {tb m : Nat} {ls : List (List Nat)} {v : Value} {A B : World} {row : Option Nat} (h : TrInv w tb ls v A) (hg : A.grownBy B row) (hr : ∀ r, row = some r → m ≤ r) (hm : w.heap.size ≤ m) (hv : ∀ k, v.ownBlock = some k → k < m) (hlt : tb < w.heap.size) : TrInv w tb ls v B := by
  refine ⟨h.tape.grown hg fun r e => by have := hr r e; omega, h.row.kept hg ?_, ?_, h.ok⟩
  · cases hk : v.ownBlock with
    | none => exact Or.inl rfl
    | some k =>
      refine Or.inr fun e => ?_
      have h1 := hv k hk
      have h2 := hr k e.symm
      omega
  · have ho := h.old
    exact ⟨hg.os.trans ho.os, hg.tape.trans ho.tape, hg.output.trans ho.output, Nat.le_trans ho.size hg.size, fun k hk hne => (hg.block k (Nat.lt_of_lt_of_le hk ho.size) fun e => by have := hr k e.symm; omega).trans (ho.block k hk hne)⟩

theorem TrInv.at {w : World} {tb : Nat} {ls : List (List Nat)} {v : Value} {A : World} (h : TrInv w tb ls v A) (h0 : 0 < ls.length) : ∃ g cap, v = .slice (some ⟨g, 0, none⟩) ls.length cap ∧ ∀ i (hi : i < ls.length), A.cell? ⟨g, i, none⟩ = some (.string (codeT ls[i])) := by
  obtain ⟨g, cap, rfl, hg, hc⟩ := owns_shape h.row h0
  refine ⟨g, cap, rfl, fun i hi => ?_⟩
  rw [h.row.cellAt i (by omega), cellsS_get (texts ls) i (by rw [texts_len]; exact hi)]
  simp [texts]

theorem ownsRow_none (w : World) (e : TypeId) : (w.alloc (.cells #[] e)).ownsRow w.heap.size e 1 (.slice (some ⟨w.heap.size, 0, none⟩) 0 0) 0 [] :=
  World.ownsRow_lit (base := w.heap.size) (size := 1) (e := e) w #[] 0 (Nat.le_refl _) (by decide) rfl

theorem tx9 : codeT [9] = ⟨#[57]⟩ := by unfold codeT; simp [joinL, txt, dec_one 9 (by omega)]
theorem tx91 : codeT [9, 1] = ⟨#[57, 46, 49]⟩ := by unfold codeT; simp [joinL, txt, dec_one 9 (by omega), dec_one 1 (by omega)]
theorem tx92 : codeT [9, 2] = ⟨#[57, 46, 50]⟩ := by unfold codeT; simp [joinL, txt, dec_one 9 (by omega), dec_one 2 (by omega)]
theorem g9 : GoodN [9] := GoodN.one (by omega)
theorem g91 : GoodN [9, 1] := g9.snoc (by decide) (by omega)
theorem g92 : GoodN [9, 2] := g9.snoc (by decide) (by omega)

def treeNames : List ByteArray := [⟨#[115, 99, 104, 111, 111, 108, 115]⟩, ⟨#[114, 111, 97, 100, 115]⟩, ⟨#[99, 111, 117, 114, 116, 32, 111, 102, 32, 97, 117, 100, 105, 116]⟩, ⟨#[97]⟩, ⟨#[116, 97, 120]⟩]

structure TreeHs (n : Nat) (ls : List (List Nat)) (hs : List Head) : Prop where
  ok : TreeOk ls
  codes : hs.map (·.1) = texts ls
  names : ∀ h ∈ hs, h.2 ∈ treeNames
  pos : 2 ≤ ls.length
  len : ls.length ≤ n + 5

def TreePost (tb n : Nat) (w : World) (e : Ending) (w' : World) : Prop :=
  ∃ v ls hs, e = .returned v ∧ TapeAt w' tb ∧ w'.ownsRow w.heap.size 53 2 v hs.length (cellsH hs) ∧ TreeHs n ls hs ∧ w.grownBy w' (some tb)

theorem Tryz.infoH : (Tryz.prog.info? 53).map (fun i => (i.zero, i.size, i.bytes)) = some (some (.agg #[.string ⟨#[]⟩, .string ⟨#[]⟩]), 2, 32) := by kernel_rfl
theorem infoH_parts : ∃ i, Tryz.prog.info? 53 = some i ∧ i.zero = some (.agg #[.string ⟨#[]⟩, .string ⟨#[]⟩]) ∧ i.size = 2 ∧ i.bytes = 32 := info_parts Tryz.infoH

theorem two_new (w : World) (x y : Value) (T : TypeId) : ∀ j u, [x, y][j]? = some u → (w.alloc (.cells #[x, y] T)).cell? ((⟨w.heap.size, 0, none⟩ : Addr).add j) = some u := by
  intro j u hj
  match j, hj with
  | 0, hj => simp at hj; subst hj; simp [Addr.add]
  | 1, hj => simp at hj; subst hj; simp [Addr.add]

theorem two_str (s t : ByteArray) : ∀ u ∈ [Value.string s, Value.string t], u.oneCell' = true := by
  intro u hu; simp at hu; rcases hu with rfl | rfl <;> rfl

set_option maxRecDepth 100000 in
set_option maxHeartbeats 8000000 in
theorem Tree_any (tb n : Nat) (w : World) (ht : TapeAt w tb) (hn : n ≤ 60) :
    Calls Tryz.prog 7 #[.pointer (some ⟨tb, 0, none⟩), .int .i64 n] w (TreePost tb n w) := by
  obtain ⟨i0, hi, hz0, hz1, hz2⟩ := infoS_parts
  obtain ⟨j0, hj, hy0, hy1, hy2⟩ := infoI_parts
  obtain ⟨k0, hkk, hw0, hw1, hw2⟩ := infoH_parts
  have hlt := ht.lt
  have HN1 := Lib.hid (fun (m : Int) W (h : TapeAt W tb) (h1 : 1 ≤ m) (h2 : m ≤ 4611686018427387904) => N_any tb m W h h1 h2)
  have h0 : TrInv w tb [[1], [2]] (.slice (some ⟨w.heap.size, 0, none⟩) 2 2) (w.alloc (.cells #[.string ⟨#[49]⟩, .string ⟨#[50]⟩] 9)) := by
    refine ⟨ht.below (below_alloc _ _), ?_, grownBy_below (below_alloc _ _), tree0⟩
    have e : cellsS (texts [[1], [2]]) = [.string ⟨#[49]⟩, .string ⟨#[50]⟩] := by
      have e1 : codeT [1] = ⟨#[49]⟩ := by unfold codeT; simp [joinL, txt, dec_one 1 (by omega)]
      have e2 : codeT [2] = ⟨#[50]⟩ := by unfold codeT; simp [joinL, txt, dec_one 2 (by omega)]
      simp [cellsS, texts, e1, e2]
    rw [e]
    exact World.ownsRow_lit (base := w.heap.size) (size := 1) (e := 9) w _ 2 (Nat.le_refl _) (by decide) rfl
  have H0 := Lib.hid h0
  have hcall := fun (h : TapeAt (w.alloc (.cells #[.string ⟨#[49]⟩, .string ⟨#[50]⟩] 9)) tb) => HN1.out ((n : Int) + 1) _ h (by omega) (by omega)
  have HC0 := Lib.hid (hcall h0.tape)
  have hn1 : (n : Int) ≤ 60 := by omega
  clear h0 hcall ht
  go_enter Tryz.func7, Tryz.ntmps7
  go_wp2_with fail
  refine (HC0.out).mono ?_
  rintro e w1 ⟨r, rfl, r0, r1, t1, g1⟩
  have H1 := Lib.hid (H0.out.turn t1 g1 hlt)
  obtain ⟨r, rfl⟩ : ∃ q : Nat, r = q := ⟨r.toNat, by omega⟩
  clear t1 g1
  go_wp2_with fail
  go_loopw [5, 6] (fun v i wr => ∃ (k : Nat) (ls : List (List Nat)), i = .int .i64 k ∧ ls.length + k ≤ n + 2 ∧ 2 ≤ ls.length ∧ Hid (TrInv w tb ls v wr)) (fun _ i _ => (RowKit.intOf i).toNat)
  case atStart => exact ⟨r, [[1], [2]], rfl, by simp; omega, by simp, H1⟩
  case round =>
    obtain ⟨k, ls, rfl, hlk, hl2, HI⟩ := hrel
    obtain ⟨g, cap, rfl, hcells⟩ := HI.out.at (by omega)
    by_cases hk : 0 < k
    · have hk' : (0 : Int) < (k : Int) := by omega
      have HCE := Lib.hid (HN1.out (ls.length : Int) wr HI.out.tape (by omega) (by omega))
      clear hcells
      go_wp2_with fail
      refine (HCE.out).mono ?_
      rintro e w2 ⟨r, rfl, r0, r1, t1, g1⟩
      have HI2 := Lib.hid (HI.out.turn t1 g1 hlt)
      obtain ⟨j, rfl⟩ : ∃ q : Nat, r = q := ⟨r.toNat, by omega⟩
      have hj1 : j < ls.length := by omega
      obtain ⟨g', cap', hv', hcells⟩ := HI2.out.at (by omega)
      simp only [Value.slice.injEq, Option.some.injEq, Addr.mk.injEq, and_true, true_and] at hv'
      obtain ⟨rfl, rfl⟩ := hv'
      have hcj := hcells j hj1
      have hgood := HI2.out.ok.good ls[j] (List.getElem_mem hj1)
      have hmem : ls[j] ∈ ls := List.getElem_mem hj1
      obtain ⟨y, hy⟩ : ∃ y, y = ls[j] := ⟨_, rfl⟩
      rw [← hy] at hcj hgood hmem
      have hyl := hgood.2.1
      have hyp : 0 < y.length := List.length_pos_iff.2 hgood.1
      have hpar := rclParts_any (codeT y) w2 (by have := codeT_size hgood; omega)
      rw [partsN_codeT hgood] at hpar
      have HPAR := Lib.hid hpar
      have HGOOD := Lib.hid hgood
      have HMEM := Lib.hid hmem
      clear t1 g1 hcells hpar hgood hmem hy HI
      go_wp2_with fail
      refine (HPAR.out).mono ?_
      rintro e w3 ⟨u, rfl, hu, hb3⟩
      obtain ⟨q, capq, rfl, hq, hqc⟩ := owns_shape hu hyp
      have HU := Lib.hid hu
      have HI3 := Lib.hid (HI2.out.below hb3)
      clear hu hb3
      by_cases h3 : 3 ≤ y.length
      · have h3' : (3 : Int) ≤ (y.length : Int) := by omega
        go_wp2
        go_roundw
        case rel => exact ⟨k - 1, ls, by (congr 1; omega), by omega, hl2, HI3⟩
        case measure => simp [RowKit.intOf]; omega
      · have h3' : (y.length : Int) < 3 := by omega
        have hsrc : ∀ j u, (cellsI (asInts y))[j]? = some u → (w3.alloc (.cells #[] 3)).cell? ((⟨q, 0, none⟩ : Addr).add j) = some u := fun j u h => (HU.out.alloc _).cells rfl j u h
        have hone : ∀ u ∈ cellsI (asInts y), u.oneCell' = true := fun u hu => by
          obtain ⟨z, _, rfl⟩ := List.mem_map.1 hu
          rfl
        have hclen : (cellsI (asInts y)).length = y.length * 1 := by simp [cellsI, asInts]
        have HSRC := Lib.hid hsrc
        have HONE := Lib.hid hone
        have HCL := Lib.hid hclen
        clear hsrc hone hclen
        go_wp2_with (at_builtin; refine wpList_append_own _ rfl _ _ 22 rfl w3.heap.size 3 j0 (.int .i64 0) 1 8 Tryz.underlying22 hj hy0 hy1 hy2 rfl (by decide) _ _ _ rfl (ownsRow_none w3 3) ⟨q, 0, none⟩ y.length capq (cellsI (asInts y)) rfl HCL.out HSRC.out HONE.out (by unfold maxLen; omega) (by omega) (by simp) ?_; intro v4 w4 hown4 hgr4 _)
        have hsz3 := HI3.out.old.size
        have hb4 : Below w3.heap.size w3 w4 := (below_alloc w3 _).grown hgr4 (by simp) fun j e => ownBlock_le (ownsRow_none w3 3) j e
        have hI4 := HI3.out.below hb4
        have hpick := Pick_new tb 4 [1, 2, 3, 10] #[.int .i64 1, .int .i64 2, .int .i64 3, .int .i64 10] 3 w4 rfl hI4.tape (by decide) (by decide) 4 rfl
        have HPICK := Lib.hid hpick
        have HI4 := Lib.hid hI4
        have HO4 := Lib.hid hown4
        have hsz4 := hb4.size
        clear hpick hb4 hI4 hown4 hgr4
        refine (HPICK.out).mono ?_
        rintro e w5 ⟨x, rfl, hx, t5, g5⟩
        have hxr : 1 ≤ x ∧ x ≤ 99 := by simp only [List.mem_cons, List.mem_nil_iff, or_false] at hx; omega
        obtain ⟨z, rfl⟩ : ∃ z : Nat, x = z := ⟨x.toNat, by omega⟩
        have hI5 := (HI4.out.below (below_alloc w4 (.cells #[.int .i64 1, .int .i64 2, .int .i64 3, .int .i64 10] 3))).turn t5 g5 hlt
        have hown5 := (HO4.out.alloc (.cells #[.int .i64 1, .int .i64 2, .int .i64 3, .int .i64 10] 3)).kept g5 (ownBlock_ne HO4.out tb (by omega))
        have hsz5 := g5.size
        rw [World.size_alloc] at hsz5
        have HI5 := Lib.hid hI5
        have HO5 := Lib.hid hown5
        clear hI5 hown5 t5 g5 hx
        have hy4 : y.length + 1 ≤ 4 := by omega
        go_wp2_with (at_builtin; refine wpList_append_own _ rfl _ _ 22 rfl w3.heap.size 3 j0 (.int .i64 0) 1 8 Tryz.underlying22 hj hy0 hy1 hy2 rfl (by decide) _ _ _ rfl (HO5.out.alloc _) ⟨w5.heap.size, 0, none⟩ 1 1 [.int .i64 (z : Int)] rfl rfl (one_new _ _ _ _ rfl) (one_int _ _) (by unfold maxLen; omega) (by omega) (by simp; omega) ?_; intro v6 w6 hown6 hgr6 _)
        have hvlt : ∀ k, (Value.slice (some ⟨g, 0, none⟩) ls.length cap).ownBlock = some k → k < w3.heap.size := fun k hk => (HI3.out.row.lt k hk).2
        have hI6 := (HI5.out.below (below_alloc w5 (.cells #[.int .i64 (z : Int)] 3))).other hgr6 (fun r e => ownBlock_le HO5.out r e) hsz3 hvlt hlt
        have hown6' : w6.ownsRow w3.heap.size 3 1 v6 (y.length + 1) (cellsI (asInts y ++ [(z : Int)])) := by
          rw [← cellsI_snoc]
          simpa using hown6
        obtain ⟨ao6, cap6, hv6, _, _⟩ := owns_gen hown6'
        have hnat : toNats (asInts y ++ [(z : Int)]) = y ++ [z] := by simp [toNats, asInts, Function.comp_def]
        have hcode := rclCode_any (asInts y ++ [(z : Int)]) (y.length + 1) v6 w6 (RowAt.owns hown6') (by simp [asInts]) ⟨ao6, cap6, hv6⟩ ⟨by simp [asInts]; omega, fun m hm => by
          rcases List.mem_append.1 hm with hm | hm
          · obtain ⟨a, ha, rfl⟩ := List.mem_map.1 hm
            have := HGOOD.out.2.2 a ha
            omega
          · rw [List.mem_singleton.1 hm]; exact hxr⟩
        rw [hnat] at hcode
        have hgood2 : GoodN (y ++ [z]) := HGOOD.out.snoc (by omega) (by omega)
        have hwith := with_any w.heap.size ls (y ++ [z]) _ w6 hI6.old.size hI6.row (by omega) hI6.ok.good hgood2
        have hput := hI6.ok.put hgood2 (fun _ => by rw [List.dropLast_concat]; exact HMEM.out)
        have hlen7 := withN_len (y ++ [z]) ls
        have HI6 := Lib.hid hI6
        have HCODE := Lib.hid hcode
        have HWITH := Lib.hid hwith
        have HPUT := Lib.hid hput
        clear hI6 hown6 hown6' hgr6 hcode hwith hput hnat hgood2 hvlt hv6
        go_wp2_with fail
        refine (HCODE.out).mono ?_
        rintro e w7 ⟨rfl, rfl⟩
        go_wp2_with fail
        refine (HWITH.out).mono ?_
        rintro e w8 ⟨v8, rfl, ho8, hb8⟩
        have hI8 : TrInv w tb (withN (y ++ [z]) ls) v8 w8 := ⟨HI6.out.tape.below hb8, ho8, grownBy_trans HI6.out.old (grownBy_below hb8), HPUT.out⟩
        have HI8 := Lib.hid hI8
        clear ho8 hb8 hI8
        go_wp2
        go_roundw
        case rel => exact ⟨k - 1, _, by (congr 1; omega), by omega, by omega, HI8⟩
        case measure => simp [RowKit.intOf]; omega
    · obtain rfl : k = 0 := by omega
      have h9 := with_any w.heap.size ls [9] _ wr HI.out.old.size HI.out.row (by omega) HI.out.ok.good g9
      rw [tx9] at h9
      have hput := HI.out.ok.put g9 (fun h => by simp at h)
      have hm9 : [9] ∈ withN [9] ls := mem_withN.2 (Or.inl rfl)
      have hl9 := withN_len [9] ls
      obtain ⟨l9, hl9e⟩ : ∃ l9, l9 = withN [9] ls := ⟨_, rfl⟩
      rw [← hl9e] at h9 hput hm9 hl9
      have HW9 := Lib.hid h9
      have HP9 := Lib.hid hput
      have HM9 := Lib.hid hm9
      clear hcells h9 hput hm9 hl9e
      go_wp2_with fail
      refine (HW9.out).mono ?_
      rintro e w2 ⟨v2, rfl, ho2, hb2⟩
      have hI2 : TrInv w tb l9 v2 w2 := ⟨HI.out.tape.below hb2, ho2, grownBy_trans HI.out.old (grownBy_below hb2), HP9.out⟩
      have HI2 := Lib.hid hI2
      have HN3 := Lib.hid (HN1.out 3 w2 hI2.tape (by omega) (by omega))
      clear ho2 hb2 hI2 HI
      go_wp2_with fail
      refine (HN3.out).mono ?_
      rintro e w3 ⟨r3, rfl, r30, r31, t3, g3⟩
      obtain ⟨r3, rfl⟩ : ∃ q : Nat, r3 = q := ⟨r3.toNat, by omega⟩
      have HI3 := Lib.hid (HI2.out.turn t3 g3 hlt)
      clear t3 g3
      go_wp2_with fail
      go_loopw [5, 9] (fun v i wr => ∃ (k : Nat) (ls : List (List Nat)), i = .int .i64 k ∧ ls.length + k ≤ n + 5 ∧ 2 ≤ ls.length ∧ Hid (TrInv w tb ls v wr) ∧ Hid ([9] ∈ ls)) (fun _ i _ => (RowKit.intOf i).toNat)
      case atStart => exact ⟨r3, l9, rfl, by omega, by omega, HI3, HM9⟩
      case round =>
        obtain ⟨k, ls, rfl, hlk, hl2, HI, HM⟩ := hrel
        by_cases hk : 0 < k
        · have hk' : (0 : Int) < (k : Int) := by omega
          have hal := HI.out.below (below_alloc wr (.cells #[.string ⟨#[57, 46, 49]⟩, .string ⟨#[57, 46, 50]⟩] 9))
          have HN2 := Lib.hid (HN1.out 2 _ hal.tape (by omega) (by omega))
          have HAL := Lib.hid hal
          clear hal
          go_wp2_with fail
          refine (HN2.out).mono ?_
          rintro e w4 ⟨j, rfl, j0', j1', t4, g4⟩
          have hI4 := HAL.out.turn t4 g4 hlt
          have hcell : ∃ c, (c = [9, 1] ∨ c = [9, 2]) ∧ w4.cell? ⟨wr.heap.size, j.toNat, none⟩ = some (.string (codeT c)) := by
            have hbk : w4.heap[wr.heap.size]? = some (.cells #[.string ⟨#[57, 46, 49]⟩, .string ⟨#[57, 46, 50]⟩] 9 (0, 0)) := by
              rw [g4.block wr.heap.size (by simp) (fun e => by have := HI.out.old.size; injection e; omega)]
              exact heap_alloc_new wr _
            have hj : j = 0 ∨ j = 1 := by omega
            rcases hj with rfl | rfl
            · exact ⟨[9, 1], Or.inl rfl, by rw [cell_of_row _ _ _ _ _ _ hbk, tx91]; rfl⟩
            · exact ⟨[9, 2], Or.inr rfl, by rw [cell_of_row _ _ _ _ _ _ hbk, tx92]; rfl⟩
          obtain ⟨c, hc, hcc⟩ := hcell
          obtain ⟨j, rfl⟩ : ∃ q : Nat, j = q := ⟨j.toNat, by omega⟩
          rw [Int.toNat_natCast] at hcc
          have hgc : GoodN c := by rcases hc with rfl | rfl; exact g91; exact g92
          have hdrop : c.dropLast = [9] := by rcases hc with rfl | rfl <;> rfl
          have hwith := with_any w.heap.size ls c _ w4 hI4.old.size hI4.row (by omega) hI4.ok.good hgc
          have hput := hI4.ok.put hgc (fun _ => by rw [hdrop]; exact HM.out)
          have hlw := withN_len c ls
          have hmw : [9] ∈ withN c ls := mem_withN.2 (Or.inr HM.out)
          have HWITH := Lib.hid hwith
          have HPUT := Lib.hid hput
          have HMW := Lib.hid hmw
          have HI4 := Lib.hid hI4
          clear hI4 t4 g4 hc hgc hdrop hwith hput hmw HN2 HAL
          go_wp2_with fail
          refine (HWITH.out).mono ?_
          rintro e w5 ⟨v5, rfl, ho5, hb5⟩
          have hI5 : TrInv w tb (withN c ls) v5 w5 := ⟨HI4.out.tape.below hb5, ho5, grownBy_trans HI4.out.old (grownBy_below hb5), HPUT.out⟩
          have HI5 := Lib.hid hI5
          clear ho5 hb5 hI5
          go_wp2
          go_roundw
          case rel => exact ⟨k - 1, _, by (congr 1; omega), by omega, by omega, HI5, HMW⟩
          case measure => simp [RowKit.intOf]; omega
        · obtain rfl : k = 0 := by omega
          obtain ⟨g, cap, rfl, hcells⟩ := HI.out.at (by omega)
          obtain ⟨m, hm⟩ : ∃ m, m = ls.length := ⟨_, rfl⟩
          obtain ⟨B, hB⟩ : ∃ B, B = wr.heap.size := ⟨_, rfl⟩
          have hBw : w.heap.size ≤ B := by rw [hB]; exact HI.out.old.size
          have hvlt : ∀ k, (Value.slice (some ⟨g, 0, none⟩) ls.length cap).ownBlock = some k → k < B := fun k hk => by rw [hB]; exact (HI.out.row.lt k hk).2
          have hBr : B ≤ wr.heap.size := by omega
          have HVLT := Lib.hid hvlt
          have HMM := Lib.hid hm
          rw [← hm] at HI HVLT hlk hl2 ⊢
          clear hvlt hcells hB hm HM
          go_wp2_with fail
          go_loopw [10, 62] (fun u i wr => ∃ (k : Nat) (hs : List Head), i = .int .i64 k ∧ k ≤ m ∧ Hid (hs.length = k) ∧ Hid (hs.map (·.1) = texts (ls.take k)) ∧ Hid (∀ h ∈ hs, h.2 ∈ treeNames) ∧ Hid (wr.ownsRow B 53 2 u hs.length (cellsH hs)) ∧ Hid (TrInv w tb ls (.slice (some ⟨g, 0, none⟩) m cap) wr) ∧ B ≤ wr.heap.size) (fun _ i _ => m - (RowKit.intOf i).toNat)
          case atStart => exact ⟨0, [], rfl, by omega, Lib.hid rfl, Lib.hid rfl, Lib.hid (by simp), Lib.hid (World.ownsRow_nil _ _ _ _), HI, hBr⟩
          case round =>
            obtain ⟨k, hs, rfl, hkm, HSK, HC, HN, HR, HI, hBr⟩ := hrel
            have hhs : hs.length ≤ 100 := by have := HSK.out; omega
            by_cases hlt3 : k < m
            · have hkl : k < ls.length := by rw [← HMM.out]; exact hlt3
              obtain ⟨g', cap', hv', hcells⟩ := HI.out.at (by omega)
              simp only [Value.slice.injEq, Option.some.injEq, Addr.mk.injEq, and_true] at hv'
              obtain ⟨rfl, hml, rfl⟩ := hv'
              clear hml
              have hck := hcells k hkl
              have hts : texts (ls.take (k + 1)) = texts (ls.take k) ++ [codeT ls[k]] := by rw [List.take_succ_eq_append_getElem hkl, texts_snoc]
              obtain ⟨c, hc⟩ : ∃ c, c = codeT ls[k] := ⟨_, rfl⟩
              rw [← hc] at hck hts
              have hal := HI.out.below (below_alloc wr (.cells #[.string ⟨#[115, 99, 104, 111, 111, 108, 115]⟩, .string ⟨#[114, 111, 97, 100, 115]⟩, .string ⟨#[99, 111, 117, 114, 116, 32, 111, 102, 32, 97, 117, 100, 105, 116]⟩, .string ⟨#[97]⟩, .string ⟨#[116, 97, 120]⟩] 9))
              have HN5 := Lib.hid (HN1.out 5 _ hal.tape (by omega) (by omega))
              have HAL := Lib.hid hal
              have HTS := Lib.hid hts
              have hral := HR.out.alloc (.cells #[.string ⟨#[115, 99, 104, 111, 111, 108, 115]⟩, .string ⟨#[114, 111, 97, 100, 115]⟩, .string ⟨#[99, 111, 117, 114, 116, 32, 111, 102, 32, 97, 117, 100, 105, 116]⟩, .string ⟨#[97]⟩, .string ⟨#[116, 97, 120]⟩] 9)
              have HRAL := Lib.hid hral
              clear hal hts hc hcells hral
              go_wp2_with fail
              refine (HN5.out).mono ?_
              rintro e w4 ⟨j, rfl, j0', j1', t4, g4⟩
              have hI4 := HAL.out.turn t4 g4 hlt
              have hrow4 := HRAL.out.kept g4 (ownBlock_ne HRAL.out tb (by omega))
              have hcell : ∃ d, d ∈ treeNames ∧ w4.cell? ⟨wr.heap.size, j.toNat, none⟩ = some (.string d) := by
                have hbk : w4.heap[wr.heap.size]? = some (.cells #[.string ⟨#[115, 99, 104, 111, 111, 108, 115]⟩, .string ⟨#[114, 111, 97, 100, 115]⟩, .string ⟨#[99, 111, 117, 114, 116, 32, 111, 102, 32, 97, 117, 100, 105, 116]⟩, .string ⟨#[97]⟩, .string ⟨#[116, 97, 120]⟩] 9 (0, 0)) := by
                  rw [g4.block wr.heap.size (by simp) (fun e => by injection e; omega)]
                  exact heap_alloc_new wr _
                have hj : j = 0 ∨ j = 1 ∨ j = 2 ∨ j = 3 ∨ j = 4 := by omega
                rcases hj with rfl | rfl | rfl | rfl | rfl
                · exact ⟨⟨#[115, 99, 104, 111, 111, 108, 115]⟩, by simp [treeNames], by rw [cell_of_row _ _ _ _ _ _ hbk]; rfl⟩
                · exact ⟨⟨#[114, 111, 97, 100, 115]⟩, by simp [treeNames], by rw [cell_of_row _ _ _ _ _ _ hbk]; rfl⟩
                · exact ⟨⟨#[99, 111, 117, 114, 116, 32, 111, 102, 32, 97, 117, 100, 105, 116]⟩, by simp [treeNames], by rw [cell_of_row _ _ _ _ _ _ hbk]; rfl⟩
                · exact ⟨⟨#[97]⟩, by simp [treeNames], by rw [cell_of_row _ _ _ _ _ _ hbk]; rfl⟩
                · exact ⟨⟨#[116, 97, 120]⟩, by simp [treeNames], by rw [cell_of_row _ _ _ _ _ _ hbk]; rfl⟩
              obtain ⟨d, hd, hcd⟩ := hcell
              obtain ⟨j, rfl⟩ : ∃ q : Nat, j = q := ⟨j.toNat, by omega⟩
              rw [Int.toNat_natCast] at hcd
              have hsz4 := g4.size
              rw [World.size_alloc] at hsz4
              have HI4 := Lib.hid hI4
              have HR4 := Lib.hid hrow4
              have HD := Lib.hid hd
              have hk60 : k ≤ 100 := by omega
              clear hI4 hrow4 hd t4 g4 HN5 HAL HRAL
              go_wp2_with (at_builtin; refine wpList_append_own _ rfl _ _ 29 rfl B 53 k0 (.agg #[.string ⟨#[]⟩, .string ⟨#[]⟩]) 2 32 Tryz.underlying29 hkk hw0 hw1 hw2 rfl (by decide) _ _ _ rfl (HR4.out.alloc _) ⟨w4.heap.size, 0, none⟩ 1 1 [.string c, .string d] rfl rfl (two_new _ _ _ _) (two_str _ _) (by unfold maxLen; omega) (by omega) (by simp; omega) ?_; intro v5 w5 hown5 hgr5 _)
              have hI5 := (HI4.out.below (below_alloc w4 (.cells #[.string c, .string d] 53))).other hgr5 (fun r e => ownBlock_le HR4.out r e) hBw HVLT.out hlt
              have hB5 : B ≤ w5.heap.size := by have := hgr5.size; simp at this; omega
              have hr5 : w5.ownsRow B 53 2 v5 (hs ++ [(c, d)]).length (cellsH (hs ++ [(c, d)])) := by
                rw [← cellsH_app, List.length_append]
                exact hown5
              have HI5 := Lib.hid hI5
              have HR5 := Lib.hid hr5
              clear hI5 hr5 hown5 hgr5
              go_roundw
              case rel =>
                ((repeat apply Exists.intro); exact ⟨⟨k + 1, hs ++ [(c, d)], by go_num, by omega, Lib.hid (by rw [List.length_append, HSK.out]; rfl), Lib.hid (by rw [List.map_append, HC.out, HTS.out]; rfl), Lib.hid (fun h hh => by
                rcases List.mem_append.1 hh with hh | hh
                · exact HN.out h hh
                · rw [List.mem_singleton.1 hh]; exact HD.out), HR5, HI5, hB5⟩, rfl⟩)
              case measure => simp [RowKit.intOf]; omega
            · obtain rfl : k = m := by omega
              have hge : (k : Int) ≤ (k : Int) := Int.le_refl _
              go_wp2
              go_ret
              have hcodes := HC.out
              rw [HMM.out, List.take_length] at hcodes
              exact ⟨_, ls, hs, rfl, HI.out.tape, ownsRow_mono HR.out hBw, ⟨HI.out.ok, hcodes, HN.out, by rw [← HMM.out]; exact hl2, by rw [← HMM.out]; omega⟩, HI.out.old⟩

end Go.Proofs.YtdgckdmgplpobaaGreatDoor
