/- Contract of package ledger's Balances, on right ledgers. -/
import Derived.Test.YtdbpbmejgdbppaaLgK
set_option linter.unusedSimpArgs false
set_option linter.unusedVariables false
namespace Go.Proofs.Ytdbpbmejgdbppaa
open Go.RowKit Go.Lib Go.Proofs Go.Maps Go.Sort Go.Shelf

structure Blc where
  acct : Int
  amt : Int
def balC (x : Blc) : List Value := [.int .i64 x.acct, .int .i64 x.amt]
theorem balF : Fields balC 2 := ⟨fun _ => rfl, fun _ u hu => by simp only [balC, List.mem_cons, List.mem_nil_iff, or_false] at hu; rcases hu with rfl | rfl <;> rfl, by decide⟩
theorem Try.infoBal : (Try.prog.info? 51).map (fun i => (i.zero, i.size, i.bytes)) = some (some (.agg #[.int .i64 0, .int .i64 0]), 2, 16) := by kernel_rfl
def keyC (x : Int) : List Value := [encZ x]
theorem keyF : Fields keyC 1 := ⟨fun _ => rfl, fun _ u hu => by simp only [keyC, List.mem_cons, List.mem_nil_iff, or_false] at hu; rcases hu with rfl; rfl, by decide⟩
theorem keyCells : ∀ l : List Int, cellsL keyC l = l.map encZ
  | [] => rfl
  | x :: l => by simp [cellsL, keyC, keyCells l]

/-- The balances that are not 0, ascending by account. -/
def balsOf (g : Int → Int) (ks : List Int) : List Blc := (ks.filter fun x => g x != 0).map fun x => ⟨x, g x⟩
def balsM (g : Int → Int) : List Blc := balsOf g acctsM
theorem balsOf_snoc (g : Int → Int) (ks : List Int) (x : Int) : balsOf g (ks ++ [x]) = if g x = 0 then balsOf g ks else balsOf g ks ++ [⟨x, g x⟩] := by
  unfold balsOf
  rw [List.filter_append, List.map_append]
  by_cases h : g x = 0
  · rw [if_pos h]; simp [h]
  · rw [if_neg h]; simp [h]
theorem balsOf_length (g : Int → Int) (ks : List Int) : (balsOf g ks).length ≤ ks.length := by
  unfold balsOf
  rw [List.length_map]
  exact List.length_filter_le _ _
theorem balsOf_filter {g : Int → Int} {K : Int → Bool} (h : ∀ x, K x = false → g x = 0) (ks : List Int) : balsOf g (ks.filter K) = balsOf g ks := by
  unfold balsOf
  rw [List.filter_filter]
  congr 1
  refine List.filter_congr fun x _ => ?_
  cases hk : K x with
  | true => rw [Bool.and_true]
  | false => rw [h x hk]; rfl

set_option maxRecDepth 100000 in
set_option maxHeartbeats 8000000 in
theorem lgBalances_right {l : List Pst} (h : LdgOk l) (ee day : Int) (v : Value) (w : World) (hl : PstsAt w v l) :
    Calls Try.prog 33 #[.agg #[v], .int .i64 ee, .int .i64 day] w fun e w' => ∃ u, e = .returned u ∧ w'.ownsRow w.heap.size 51 2 u (balsM fun x => ofM ee (byDay day) x l).length (cellsL balC (balsM fun x => ofM ee (byDay day) x l)) ∧ Below w.heap.size w w' := by
  obtain ⟨i0, hi0, hz0, hz1, hz2⟩ := info_parts Try.infoBal
  have HCK := Lib.hid (fun W (hW : Below w.heap.size w W) => lgCheck_right h v W (hl.below hW))
  obtain ⟨w0, hw0⟩ : ∃ w0, w0 = (w.alloc (.cells #[v] 27)).alloc (.cells #[.int .i64 day] 3) := ⟨_, rfl⟩
  have HB0 : Hid (Below w.heap.size w w0) := Lib.hid (by rw [hw0]; exact (below_alloc w _).trans ((below_alloc _ _).mono (by simp)))
  have HX0 : Hid (w0.heap[w.heap.size]? = some (.cells #[v] 27 (0, 0))) := Lib.hid (by rw [hw0]; exact obj_below (heap_alloc_new w _) (below_alloc _ _))
  have HD0 : Hid (w0.heap[w.heap.size + 1]? = some (.cells #[.int .i64 day] 3 (0, 0))) := Lib.hid (by rw [hw0]; have := heap_alloc_new (w.alloc (.cells #[v] 27)) (.cells #[.int .i64 day] 3); simpa using this)
  have HBA := Lib.hid (fun W (hW : Below w.heap.size w W) (hd : Below w0.heap.size w0 W) => lgbalances_right h ee 44 #[.pointer (some ⟨w.heap.size + 1, 0, none⟩)] (enters_of Try.func44 (by kernel_rfl) rfl) (byDay day) v W (hl.below hW) fun d W2 hW2 => by
    have hd2 : Below w0.heap.size w0 W2 := hd.trans (hW2.mono hd.size)
    have := lgBalancesC_any d day (w.heap.size + 1) W2 (obj_cell (obj_below HD0.out hd2) 0)
    simpa using this)
  have hlen := h.len
  obtain ⟨g, hg⟩ : ∃ g, g = fun x => ofM ee (byDay day) x l := ⟨_, rfl⟩
  obtain ⟨K, hK⟩ : ∃ K, K = fun x => touchM ee (byDay day) x l := ⟨_, rfl⟩
  have HKR : Hid (∀ x, K x = true → 100 ≤ x ∧ x ≤ 599) := Lib.hid fun x hx => by rw [hK] at hx; exact touchM_range h.mem hx
  have HKZ : Hid (∀ x, K x = false → g x = 0) := Lib.hid fun x hx => by rw [hK] at hx; rw [hg]; exact ofM_untouched hx
  have HBS : Hid (balsM g = balsOf g (acctsM.filter K)) := Lib.hid (balsOf_filter HKZ.out _).symm
  have HGG := Lib.hid hg
  have HKK := Lib.hid hK
  rw [← hg]
  clear h hl
  have hwE : (w.alloc (.cells #[v] 27)).alloc (.cells #[.int .i64 day] 3) = w0 := hw0.symm
  have hx := HX0.out
  have u0 := obj_cell hx 0
  simp at u0
  clear hg hK hw0 hx
  go_enter Try.func33, Try.ntmps33
  go_wp2_with fail
  refine (HCK.out _ HB0.out).mono ?_
  rintro e w1 ⟨rfl, hb1⟩
  have HB1 := Lib.hid (HB0.out.trans (hb1.mono HB0.out.size))
  have HD1 := Lib.hid hb1
  have hx1 := obj_below HX0.out hb1
  have u1 := obj_cell hx1 0
  simp at u1
  clear hb1 hx1 u0 HCK
  go_wp2_with fail
  refine (HBA.out _ HB1.out HD1.out).mono ?_
  rintro e w2 ⟨b, rfl, hbb, hm, hb2⟩
  rw [← HGG.out, ← HKK.out] at hm
  have HM := Lib.hid hm
  have HB2 := Lib.hid (HB1.out.trans (hb2.mono HB1.out.size))
  clear hm hb2 u1 HBA hwE HGG HKK HD1 HX0 HD0
  go_wp2_with fail
  refine (mapsKeys_any _ _).mono ?_
  rintro e w2' ⟨rfl, rfl⟩
  have HBX := Lib.hid (heap_alloc_new w2 (.cells #[.map (some b)] 73))
  have HB2' := Lib.hid (HB2.out.alloc HB2.out.size (.cells #[.map (some b)] 73))
  have HM2 := Lib.hid (HM.out.below (below_alloc w2 (.cells #[.map (some b)] 73)))
  have HSO := Lib.hid (slSorted_any b _ w2.heap.size g K _ HM2.out (by omega) HKR.out HBX.out)
  clear HBX
  go_wp2_with fail
  refine (HSO.out).mono ?_
  rintro e w3 ⟨kv, rfl, hko, hb3⟩
  obtain ⟨ks, hks⟩ : ∃ ks, ks = acctsM.filter K := ⟨_, rfl⟩
  rw [← hks] at hko
  rw [← hks] at HBS
  have hkl : ks.length ≤ 500 := by
    rw [hks]
    have h1 := List.length_filter_le K acctsM
    have h2 : acctsM.length = 500 := by unfold acctsM; simp
    omega
  have HKM : Hid (∀ x ∈ ks, 100 ≤ x ∧ x ≤ 599) := Lib.hid fun x hx => by rw [hks] at hx; exact mem_acctsM.1 (List.mem_filter.1 hx).1
  rw [← keyCells] at hko
  have hkv : ListAt keyC 1 w3 kv ks := ListAt.owns hko
  obtain ⟨ao, cap, rfl, hcap, hcs⟩ := hkv.shape keyF
  have HCS := Lib.hid hcs
  have HM3 := Lib.hid (HM2.out.below hb3)
  have HB3 := Lib.hid (HB2'.out.trans (hb3.mono HB2'.out.size))
  obtain ⟨n, hn⟩ : ∃ n, n = ks.length := ⟨_, rfl⟩
  have HN := Lib.hid hn
  rw [← hn] at hcap hkl ⊢
  clear hn hcs hkv hko hb3 hks HSO HM HM2 HB2' HKZ HKR
  go_wp2
  go_loopw [8, 22] (fun lv iv wr => ∃ k : Nat, iv = .int .i64 k ∧ k ≤ n ∧ Hid (wr.ownsRow w3.heap.size 51 2 lv (balsOf g (ks.take k)).length (cellsL balC (balsOf g (ks.take k)))) ∧ Hid (Below w3.heap.size w3 wr)) (fun _ iv _ => n - (RowKit.intOf iv).toNat)
  case atStart => exact ⟨0, rfl, by omega, Lib.hid (World.ownsRow_nil _ _ _ _), Lib.hid (Below.refl _ _)⟩
  case round =>
    obtain ⟨k, rfl, hkn, HO, HB⟩ := hrel
    by_cases hlt : k < n
    · have hkl' : k < ks.length := by rw [← HN.out]; exact hlt
      obtain ⟨b1, o1, rfl, hb1, hcc⟩ := HCS.out (by omega)
      have c0 := (HB.out.cell (p := ⟨b1, o1 + k * 1 + 0, none⟩) hb1).trans (hcc k hkl' 0 (by omega))
      have HTK : Hid (ks.take (k + 1) = ks.take k ++ [ks[k]]) := Lib.hid (List.take_succ_eq_append_getElem hkl')
      have hxr := HKM.out ks[k] (List.getElem_mem hkl')
      generalize ks[k] = x at *
      have HBN : Hid (balsOf g (ks.take (k + 1)) = if g x = 0 then balsOf g (ks.take k) else balsOf g (ks.take k) ++ [⟨x, g x⟩]) := Lib.hid (by rw [HTK.out, balsOf_snoc])
      have hll := balsOf_length g (ks.take k)
      obtain ⟨bs, hbs⟩ : ∃ bs, bs = balsOf g (ks.take k) := ⟨_, rfl⟩
      rw [← hbs] at HO hll HBN
      have hll2 : bs.length ≤ k := by rw [List.length_take] at hll; omega
      simp [keyC, encZ] at c0
      have hk0 : (0 : Int) ≤ (k : Int) := by omega
      have hk1 : (k : Int) < (n : Int) := by omega
      have HMW := Lib.hid (HM3.out.below HB.out)
      have hsz := HB.out.size
      clear hcc hll hbs HTK hkl'
      by_cases hz : g x = 0
      · have hzb : (g x != 0) = false := by simp [hz]
        have hgz : Hid (g x = 0) := Lib.hid hz
        clear hz
        go_wp2_with (at_lookup; refine wpList_look_Z rfl _ _ rfl _ _ _ _ rfl HMW.out x rfl (by omega) (by omega) ?_)
        go_roundw
        case rel => exact ⟨k + 1, by first | rfl | go_num, by omega, Lib.hid (by rw [HBN.out, if_pos hgz.out]; exact HO.out), HB⟩
        case measure => simp [RowKit.intOf]; omega
      · have hzb : (g x != 0) = true := by simp [hz]
        have hgz : Hid (¬ g x = 0) := Lib.hid hz
        clear hz
        go_wp2_with (first
          | (at_lookup; first | refine wpList_look_Z rfl _ _ rfl _ _ _ _ rfl HMW.out x rfl (by omega) (by omega) ?_)
          | (at_builtin; refine wpList_append_own _ rfl _ _ 45 rfl w3.heap.size 51 i0 (.agg #[.int .i64 0, .int .i64 0]) 2 16 Try.underlying45 hi0 hz0 hz1 hz2 rfl (by decide) _ _ _ rfl (HO.out.alloc _) ⟨wr.heap.size, 0, none⟩ 1 1 (balC ⟨x, g x⟩) rfl rfl (new_cells _ _ _ _ rfl) (balF.one _) (by unfold maxLen; omega) (by omega) (by simp; omega) ?_; intro v' w5 hown5 hgr5 _))
        have HO5 : Hid (w5.ownsRow w3.heap.size 51 2 v' (balsOf g (ks.take (k + 1))).length (cellsL balC (balsOf g (ks.take (k + 1))))) := Lib.hid (by
          rw [HBN.out, if_neg hgz.out, ← cellsL_snoc, List.length_append]
          simpa using hown5)
        have HB5 := Lib.hid ((HB.out.alloc HB.out.size (.cells (balC ⟨x, g x⟩).toArray 51)).grown hgr5 (by have := HB.out.size; simp; omega) fun j e => ownBlock_le HO.out j e)
        clear hown5 hgr5
        go_wp2
        go_roundw
        case rel => exact ⟨k + 1, by first | rfl | go_num, by omega, HO5, HB5⟩
        case measure => simp [RowKit.intOf]; omega
    · obtain rfl : k = n := by omega
      go_wp2
      go_ret
      refine ⟨_, rfl, ?_, HB3.out.trans (HB.out.mono HB3.out.size)⟩
      rw [HBS.out, show balsOf g ks = balsOf g (ks.take k) by rw [HN.out, List.take_length]]
      exact ownsRow_base_a HO.out HB3.out.size

end Go.Proofs.Ytdbpbmejgdbppaa
