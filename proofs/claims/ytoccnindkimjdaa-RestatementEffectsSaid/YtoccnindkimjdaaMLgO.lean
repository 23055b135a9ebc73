/- Contract of package ledger's balances (a map that the call makes), for right ledgers and any predicate on days. -/
import Derived.Test.YtoccnindkimjdaaMLgC
import Derived.Test.YtoccnindkimjdaaMLgZ
import Derived.Test.YtoccnindkimjdaaMRegInv
import Derived.Deep.Cut
set_option linter.unusedSimpArgs false
set_option linter.unusedVariables false
set_option linter.unusedSimpArgs false
set_option linter.unusedVariables false
namespace Go.Proofs.Ytoccnindkimjdaa
open Go.RowKit Go.Lib Go.Proofs Go.Maps

theorem take_snoc_at {l : List Pst} {k : Nat} (h : k < l.length) : l.take (k + 1) = l.take k ++ [pstAt l k] := by
  rw [List.take_succ_eq_append_getElem h, pstAt_get h]
theorem ofM_take_bound {l : List Pst} (h : LdgOk l) (e : Int) (f : Int → Bool) (a : Int) (k : Nat) : -400000000000000 ≤ ofM e f a (l.take k) ∧ ofM e f a (l.take k) ≤ 400000000000000 := by
  have h1 := ofM_bound (e := e) (f := f) (a := a) (l := l.take k) fun p hp => h.mem p (List.mem_of_mem_take hp)
  have h2 := h.len
  have h3 : (l.take k).length ≤ 400 := by rw [List.length_take]; omega
  omega

theorem MapZ.mono {w : World} {b n m : Nat} {g : Int → Int} {K : Int → Bool} (h : MapZ w b n g K) (hnm : n ≤ m) : MapZ w b m g K := by
  obtain ⟨D, ⟨es, clock, hb, F, hs, rfl⟩, h2⟩ := h
  exact ⟨_, ⟨es, clock, hb, F, Nat.le_trans hs hnm, rfl⟩, h2⟩

set_option maxRecDepth 100000 in
set_option maxHeartbeats 8000000 in
theorem lgbalances_right {l : List Pst} (h : LdgOk l) (ee : Int) (f : Nat) (lb : Array Value) (eg : ∀ args w, (callFunc f args).run Try.prog w = .ok (.enter f args) w) (p : Int → Bool) (v : Value) (w : World) (hl : PstsAt w v l)
    (hp : ∀ d W, Below w.heap.size w W → Calls Try.prog f (#[.int .i64 d] ++ lb) W fun e W' => e = .returned (.bool (p d)) ∧ Below W.heap.size W W') :
    Calls Try.prog 73 #[.agg #[v], .int .i64 ee, .func (.func f) #[] lb] w fun r w' => ∃ b, r = .returned (.map (some b)) ∧ w.heap.size ≤ b ∧ MapZ w' b (2 * l.length) (fun x => ofM ee p x l) (fun x => touchM ee p x l) ∧ Below w.heap.size w w' := by
  have hlen := h.len
  have HP := Lib.hid hp
  obtain ⟨ao, cap, rfl, hcap, hcs⟩ := hl.open
  have HCS := Lib.hid hcs
  have HOK := Lib.hid h
  obtain ⟨n, hn⟩ : ∃ n, n = l.length := ⟨_, rfl⟩
  have HN := Lib.hid hn
  rw [← hn] at hcap hlen ⊢
  have HX0 := Lib.hid (heap_alloc_new w (.cells #[.slice ao n cap] 27))
  have HB0 := Lib.hid (below_alloc w (.cells #[.slice ao n cap] 27))
  have HM0 := Lib.hid (MapZ.made (w.alloc (.cells #[.slice ao n cap] 27)))
  have HBM := Lib.hid (HB0.out.alloc HB0.out.size (.map #[] 0))
  simp only [World.size_alloc] at HM0
  clear hn hcs h hl hp
  have hmm := @run_makeMap Try.prog
  go_enter Try.func73, Try.ntmps73
  go_wp2
  go_loopw [14] (fun i wr => ∃ k : Nat, i = .int .i64 k ∧ k ≤ n ∧ Hid (MapZ wr (w.heap.size + 1) (2 * k) (fun x => ofM ee p x (l.take k)) (fun x => touchM ee p x (l.take k))) ∧ Hid (Below w.heap.size w wr)) (fun i _ => n - (RowKit.intOf i).toNat)
  case atStart => exact ⟨0, rfl, by omega, Lib.hid (HM0.out.congr (fun _ => rfl) (fun _ => rfl)), HBM⟩
  case round =>
    clear HM0 HBM
    obtain ⟨k, rfl, hkn, HM, HB⟩ := hrel
    by_cases hlt : k < n
    · have hkl' : k < l.length := by rw [← HN.out]; exact hlt
      obtain ⟨b, o, rfl, hb, hcc⟩ := HCS.out (by omega)
      have hcell := fun j (hj : j < 8) => (HB.out.cell (p := ⟨b, o + k * 8 + j, none⟩) hb).trans (hcc k hkl' j hj)
      have HTK := Lib.hid (take_snoc_at hkl')
      obtain ⟨q1, q2, q3, q4, q5, q6, q7, q8, q9, q10⟩ := HOK.out.ok k hkl'
      obtain ⟨g, hg⟩ : ∃ g, g = fun x => ofM ee p x (l.take k) := ⟨_, rfl⟩
      obtain ⟨K, hK⟩ : ∃ K, K = fun x => touchM ee p x (l.take k) := ⟨_, rfl⟩
      have hgb : ∀ x, -400000000000000 ≤ g x ∧ g x ≤ 400000000000000 := fun x => by rw [hg]; exact ofM_take_bound HOK.out ee p x k
      have HG : Hid (∀ x, ofM ee p x (l.take k) = g x) := Lib.hid fun x => by rw [hg]
      have HKK : Hid (∀ x, touchM ee p x (l.take k) = K x) := Lib.hid fun x => by rw [hK]
      rw [← hg, ← hK] at HM
      generalize pstAt l k = x at *
      have HOF : Hid (∀ y, ofM ee p y (l.take (k + 1)) = g y + (if hitE ee x && p x.day then netP y x else 0)) := Lib.hid fun y => by rw [HTK.out, ofM_snoc, HG.out]
      have HTC : Hid (∀ y, touchM ee p y (l.take (k + 1)) = (K y || (hitE ee x && p x.day && (decide (y = x.deb) || decide (y = x.crd))))) := Lib.hid fun y => by rw [HTK.out, touchM_snoc, HKK.out]
      obtain ⟨x0, x1, x2, x3, x4, x5, x6, x7⟩ := x
      have HPD := Lib.hid (fun W hW => HP.out x1 W hW)
      obtain ⟨c, hc⟩ : ∃ c, c = p x1 := ⟨_, rfl⟩
      rw [← hc] at HPD
      have HPC := Lib.hid hc
      clear hg hK hc hcc
      simp only at q3 q4 q5 q6 q7 HOF HTC
      have c0 := hcell 0 (by omega)
      have c1 := hcell 1 (by omega)
      have c2 := hcell 2 (by omega)
      have c3 := hcell 3 (by omega)
      have c4 := hcell 4 (by omega)
      have c5 := hcell 5 (by omega)
      have c6 := hcell 6 (by omega)
      have c7 := hcell 7 (by omega)
      simp [pstC] at c0 c1 c2 c3 c4 c5 c6 c7
      have hk0 : (0 : Int) ≤ (k : Int) := by omega
      have hk1 : (k : Int) < (n : Int) := by omega
      have HXP := Lib.hid (heap_alloc_new wr (.cells #[.int .i64 x0, .int .i64 x1, .int .i64 x2, .int .i64 x3, .int .i64 x4, .int .i64 x5, .int .i64 x6, .int .i64 x7] 55))
      have HBP := Lib.hid (HB.out.alloc HB.out.size (.cells #[.int .i64 x0, .int .i64 x1, .int .i64 x2, .int .i64 x3, .int .i64 x4, .int .i64 x5, .int .i64 x6, .int .i64 x7] 55))
      have HMP := Lib.hid (HM.out.below (below_alloc wr (.cells #[.int .i64 x0, .int .i64 x1, .int .i64 x2, .int .i64 x3, .int .i64 x4, .int .i64 x5, .int .i64 x6, .int .i64 x7] 55)))
      clear hcell
      have HNO : Hid (∀ W m, MapZ W (w.heap.size + 1) (2 * k) g K → (hitE ee ⟨x0, x1, x2, x3, x4, x5, x6, x7⟩ && p x1) = false → MapZ W (w.heap.size + 1) (2 * (k + m)) (fun x => ofM ee p x (l.take (k + 1))) (fun x => touchM ee p x (l.take (k + 1)))) := Lib.hid fun W m hW hf => by
        refine (hW.mono (by omega)).congr (fun y => ?_) (fun y => ?_)
        · rw [HOF.out, hf]; simp
        · rw [HTC.out, hf]; simp
      have hbw : w.heap.size + 1 < wr.heap.size := HM.out.lt
      have hk4 : k ≤ 400 := by omega
      by_cases he : ee = 0
      · subst he
        have HIT : Hid (hitE 0 ⟨x0, x1, x2, x3, x4, x5, x6, x7⟩ = true) := Lib.hid (by simp [hitE])
        go_wp2_with fail
        refine (HPD.out _ HBP.out).mono ?_
        rintro e w3 ⟨rfl, hb3⟩
        have HB3 := Lib.hid (HBP.out.trans (hb3.mono HBP.out.size))
        have HM3 := Lib.hid (HMP.out.below hb3)
        have HX3 := Lib.hid (obj_below HXP.out hb3)
        have hxp := HX3.out
        have e0 := obj_cell hxp 0
        have e1 := obj_cell hxp 1
        have e2 := obj_cell hxp 2
        have e3 := obj_cell hxp 3
        have e4 := obj_cell hxp 4
        have e5 := obj_cell hxp 5
        have e6 := obj_cell hxp 6
        have e7 := obj_cell hxp 7
        simp at e0 e1 e2 e3 e4 e5 e6 e7
        clear c0 c1 c2 c3 c4 c5 c6 c7 HXP HBP hb3 hxp
        cases c with
        | false =>
          go_wp2
          go_roundw
          case rel => exact ⟨k + 1, by first | rfl | go_num, by omega, Lib.hid (HNO.out _ 1 HM3.out (by rw [← HPC.out, Bool.and_false])), HB3⟩
          case measure => simp [RowKit.intOf]; omega
        | true =>
          have hgx3 := hgb x3
          have hgx4 := hgb x4
          have hw1 : IntKind.i64.wrap (g x3 + x5) = g x3 + x5 := IntWalk.i64_in _ (by omega)
          go_upto_region 7 with (first
            | (at_lookup; refine wpList_look_Z rfl _ _ rfl _ _ _ _ rfl HM3.out x3 rfl (by omega) (by omega) ?_)
            | (at_mapUpdate; refine wpList_store_Z rfl _ _ _ rfl _ _ _ _ rfl HM3.out (by unfold maxLen; omega) x3 (g x3 + x5) rfl rfl (by omega) (by omega) (by omega) (by omega) ?_; intro w4 hm4 hgr4))
          obtain ⟨g1, hg1⟩ : ∃ g1, g1 = fun t => if t = x3 then g x3 + x5 else g t := ⟨_, rfl⟩
          obtain ⟨K1, hK1⟩ : ∃ K1, K1 = fun t => (decide (t = x3) || K t) := ⟨_, rfl⟩
          rw [← hg1, ← hK1] at hm4
          have HM4 := Lib.hid hm4
          have h14 : g1 x4 = g x4 := by rw [hg1]; exact if_neg (fun q => q6 q.symm)
          have HG1 := Lib.hid hg1
          have HK1 := Lib.hid hK1
          have hw2 : IntKind.i64.wrap (g x4 - x5) = g x4 - x5 := IntWalk.i64_in _ (by omega)
          have hxp4 := (hgr4.block _ (obj_lt HX3.out) (by simp; omega)).trans HX3.out
          have HB4 := Lib.hid (HB3.out.grown hgr4 HB3.out.size fun j e => by injection e with e; omega)
          clear hm4 hg1 hK1 hgr4 e0 e1 e2 e3 e4 e5 e6 e7
          have e0 := obj_cell hxp4 0
          have e1 := obj_cell hxp4 1
          have e2 := obj_cell hxp4 2
          have e3 := obj_cell hxp4 3
          have e4 := obj_cell hxp4 4
          have e5 := obj_cell hxp4 5
          have e6 := obj_cell hxp4 6
          have e7 := obj_cell hxp4 7
          simp at e0 e1 e2 e3 e4 e5 e6 e7
          clear hxp4
          go_wp2_with (first
            | (at_lookup; refine wpList_look_Z rfl _ _ rfl _ _ _ _ rfl HM4.out x4 rfl (by omega) (by omega) ?_)
            | (at_mapUpdate; refine wpList_store_Z rfl _ _ _ rfl _ _ _ _ rfl HM4.out (by unfold maxLen; omega) x4 (g x4 - x5) rfl rfl (by omega) (by omega) (by omega) (by omega) ?_; intro w5 hm5 hgr5))
          have HM5 := Lib.hid hm5
          have HB5 := Lib.hid (HB4.out.grown hgr5 HB4.out.size fun j e => by injection e with e; omega)
          clear hm5 hgr5 e0 e1 e2 e3 e4 e5 e6 e7
          go_wp2
          go_roundw
          case rel =>
            refine ⟨k + 1, by first | rfl | go_num, by omega, Lib.hid (HM5.out.congr (fun t => ?_) (fun t => ?_)), HB5⟩
            · rw [HOF.out, HIT.out, ← HPC.out, Bool.and_true, if_pos rfl]
              unfold netP
              simp only
              rw [HG1.out]
              simp only
              by_cases ht4 : t = x4
              · have ht3 : ¬ t = x3 := fun q => q6 (q.symm.trans ht4)
                rw [if_pos ht4, if_neg ht3, if_pos ht4, ht4]
                omega
              · rw [if_neg ht4]
                by_cases ht3 : t = x3
                · rw [if_pos ht3, if_pos ht3, if_neg ht4, ht3]
                  omega
                · rw [if_neg ht3, if_neg ht3, if_neg ht4]
                  omega
            · rw [HTC.out, HIT.out, ← HPC.out, Bool.and_true, Bool.true_and, HK1.out]
              simp only
              cases decide (t = x3) <;> cases decide (t = x4) <;> cases K t <;> rfl
          case measure => simp [RowKit.intOf]; omega
      · have hef : (ee == 0) = false := by rw [beq_eq_false_iff_ne]; exact he
        by_cases h2 : x2 = ee
        · subst h2
          have HIT : Hid (hitE x2 ⟨x0, x1, x2, x3, x4, x5, x6, x7⟩ = true) := Lib.hid (by simp [hitE])
          go_wp2_with fail
          refine (HPD.out _ HBP.out).mono ?_
          rintro e w3 ⟨rfl, hb3⟩
          have HB3 := Lib.hid (HBP.out.trans (hb3.mono HBP.out.size))
          have HM3 := Lib.hid (HMP.out.below hb3)
          have HX3 := Lib.hid (obj_below HXP.out hb3)
          have hxp := HX3.out
          have e0 := obj_cell hxp 0
          have e1 := obj_cell hxp 1
          have e2 := obj_cell hxp 2
          have e3 := obj_cell hxp 3
          have e4 := obj_cell hxp 4
          have e5 := obj_cell hxp 5
          have e6 := obj_cell hxp 6
          have e7 := obj_cell hxp 7
          simp at e0 e1 e2 e3 e4 e5 e6 e7
          clear c0 c1 c2 c3 c4 c5 c6 c7 HXP HBP hb3 hxp
          cases c with
          | false =>
            go_wp2
            go_roundw
            case rel => exact ⟨k + 1, by first | rfl | go_num, by omega, Lib.hid (HNO.out _ 1 HM3.out (by rw [← HPC.out, Bool.and_false])), HB3⟩
            case measure => simp [RowKit.intOf]; omega
          | true =>
            have hgx3 := hgb x3
            have hgx4 := hgb x4
            have hw1 : IntKind.i64.wrap (g x3 + x5) = g x3 + x5 := IntWalk.i64_in _ (by omega)
            go_upto_region 7 with (first
              | (at_lookup; refine wpList_look_Z rfl _ _ rfl _ _ _ _ rfl HM3.out x3 rfl (by omega) (by omega) ?_)
              | (at_mapUpdate; refine wpList_store_Z rfl _ _ _ rfl _ _ _ _ rfl HM3.out (by unfold maxLen; omega) x3 (g x3 + x5) rfl rfl (by omega) (by omega) (by omega) (by omega) ?_; intro w4 hm4 hgr4))
            obtain ⟨g1, hg1⟩ : ∃ g1, g1 = fun t => if t = x3 then g x3 + x5 else g t := ⟨_, rfl⟩
            obtain ⟨K1, hK1⟩ : ∃ K1, K1 = fun t => (decide (t = x3) || K t) := ⟨_, rfl⟩
            rw [← hg1, ← hK1] at hm4
            have HM4 := Lib.hid hm4
            have h14 : g1 x4 = g x4 := by rw [hg1]; exact if_neg (fun q => q6 q.symm)
            have HG1 := Lib.hid hg1
            have HK1 := Lib.hid hK1
            have hw2 : IntKind.i64.wrap (g x4 - x5) = g x4 - x5 := IntWalk.i64_in _ (by omega)
            have hxp4 := (hgr4.block _ (obj_lt HX3.out) (by simp; omega)).trans HX3.out
            have HB4 := Lib.hid (HB3.out.grown hgr4 HB3.out.size fun j e => by injection e with e; omega)
            clear hm4 hg1 hK1 hgr4 e0 e1 e2 e3 e4 e5 e6 e7
            have e0 := obj_cell hxp4 0
            have e1 := obj_cell hxp4 1
            have e2 := obj_cell hxp4 2
            have e3 := obj_cell hxp4 3
            have e4 := obj_cell hxp4 4
            have e5 := obj_cell hxp4 5
            have e6 := obj_cell hxp4 6
            have e7 := obj_cell hxp4 7
            simp at e0 e1 e2 e3 e4 e5 e6 e7
            clear hxp4
            go_wp2_with (first
              | (at_lookup; refine wpList_look_Z rfl _ _ rfl _ _ _ _ rfl HM4.out x4 rfl (by omega) (by omega) ?_)
              | (at_mapUpdate; refine wpList_store_Z rfl _ _ _ rfl _ _ _ _ rfl HM4.out (by unfold maxLen; omega) x4 (g x4 - x5) rfl rfl (by omega) (by omega) (by omega) (by omega) ?_; intro w5 hm5 hgr5))
            have HM5 := Lib.hid hm5
            have HB5 := Lib.hid (HB4.out.grown hgr5 HB4.out.size fun j e => by injection e with e; omega)
            clear hm5 hgr5 e0 e1 e2 e3 e4 e5 e6 e7
            go_wp2
            go_roundw
            case rel =>
              refine ⟨k + 1, by first | rfl | go_num, by omega, Lib.hid (HM5.out.congr (fun t => ?_) (fun t => ?_)), HB5⟩
              · rw [HOF.out, HIT.out, ← HPC.out, Bool.and_true, if_pos rfl]
                unfold netP
                simp only
                rw [HG1.out]
                simp only
                by_cases ht4 : t = x4
                · have ht3 : ¬ t = x3 := fun q => q6 (q.symm.trans ht4)
                  rw [if_pos ht4, if_neg ht3, if_pos ht4, ht4]
                  omega
                · rw [if_neg ht4]
                  by_cases ht3 : t = x3
                  · rw [if_pos ht3, if_pos ht3, if_neg ht4, ht3]
                    omega
                  · rw [if_neg ht3, if_neg ht3, if_neg ht4]
                    omega
              · rw [HTC.out, HIT.out, ← HPC.out, Bool.and_true, Bool.true_and, HK1.out]
                simp only
                cases decide (t = x3) <;> cases decide (t = x4) <;> cases K t <;> rfl
            case measure => simp [RowKit.intOf]; omega
        · have h2f : (x2 == ee) = false := by rw [beq_eq_false_iff_ne]; exact h2
          have HIT : Hid (hitE ee ⟨x0, x1, x2, x3, x4, x5, x6, x7⟩ = false) := Lib.hid (by simp [hitE, he, h2])
          go_wp2
          go_roundw
          case rel => exact ⟨k + 1, by first | rfl | go_num, by omega, Lib.hid (HNO.out _ 1 HMP.out (by rw [HIT.out, Bool.false_and])), HBP⟩
          case measure => simp [RowKit.intOf]; omega
    · obtain rfl : k = n := by omega
      go_wp2
      go_ret
      refine ⟨_, rfl, by omega, ?_, HB.out⟩
      rw [show l.take k = l by rw [HN.out, List.take_length]] at HM
      exact HM.out

end Go.Proofs.Ytoccnindkimjdaa
