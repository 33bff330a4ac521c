/-
  Layer 5, msg: the program's own way: may it be a message: its contract.
-/
import Derived.Test.YtblkdmbkkimbpaaMsgOwn
import Derived.Test.YtblkdmbkkimbpaaMsgKinds
import Derived.Test.YtblkdmbkkimbpaaMsgBox
import Derived.Test.YtblkdmbkkimbpaaMsgEq
import Derived.Deep.DeepCutAuto
import Derived.Deep.CutBlock
import Derived.RegionTactic
import Derived.BigRegion
import Derived.Deep.DeepMust
namespace Go.Proofs.Ytblkdmbkkimbpaa
open Go.RowKit

set_option maxRecDepth 100000 in
set_option maxHeartbeats 40000000 in
theorem own_Right5 (m : Mg) (hm : m.In) (w : World) : Calls Try.prog 17 #[m.val] w fun e w' => e = .returned (.bool (msgB m)) ∧ Below w.heap.size w w' := by
  have hx := hm.ex
  have ht := hm.text
  obtain ⟨kind, seq, time, copy, a, b, gap, text, ex⟩ := m
  dsimp only at hx ht
  unfold Mg.val
  dsimp only
  clear hm
  have HX := Lib.hid (own_Exec5 ex hx)
  clear hx
  have HB := Lib.hid (fun (v : Bool) (h : v = true ↔ MsgR ⟨kind, seq, time, copy, a, b, gap, text, ex⟩) => (show v = msgB ⟨kind, seq, time, copy, a, b, gap, text, ex⟩ from by rw [Bool.eq_iff_iff, msgB_iff]; exact h))
  obtain ⟨id, ref, order, account, symbol, k, buy, qty, price, tm⟩ := ex
  unfold Exc.val at *
  dsimp only at *
  have HM := Lib.hid (Box.new w #[.int .i64 kind, .int .i64 seq, .int .i64 time, .bool copy, .int .i64 a, .int .i64 b, .bool gap, .string text, .string id, .string ref, .string order, .string account, .string symbol, .int .i64 k, .bool buy, .int .i64 qty, .int .i64 price, .int .i64 tm] 41)
  go_enter Try.func17, Try.ntmps17
  go_upto_region 3 with (first | (go_at_call 28; refine (own_text5 _ (by assumption) _).mono ?_; rintro e w' ⟨rfl, rfl⟩) | (go_at_call 26; refine (own_small5 _ _).mono ?_; rintro e w' ⟨rfl, rfl⟩) | (go_at_call 27; refine (own_time5 _ _).mono ?_; rintro e w' ⟨rfl, rfl⟩))
  all_goals first
    | (go_ret
       refine ⟨retB (HB.out _ ?_), by go_grown⟩
       clear HB HX HM
       rw [msgR_iff]
       first
       | (simp_all [small]; done)
       | (simp_all [small]; omega)
       | grind)
    | skip
  have hseq := Lib.hid (show ¬ seq = 0 by assumption)
  have hsm := Lib.hid (show small seq = true by assumption)
  have htm := Lib.hid (show timeR time = true by assumption)
  have htx := Lib.hid (show textB text = true by have := ‹(seq == 0) = false ∧ (!textB text) = false›; simpa using this.2)
  have HN := Lib.hid (Box.new (w.alloc (.cells #[.int .i64 kind, .int .i64 seq, .int .i64 time, .bool copy, .int .i64 a, .int .i64 b, .bool gap, .string text, .string id, .string ref, .string order, .string account, .string symbol, .int .i64 k, .bool buy, .int .i64 qty, .int .i64 price, .int .i64 tm] 41)) #[.int .i64 0, .int .i64 0, .int .i64 0, .bool false, .int .i64 0, .int .i64 0, .bool false, .string ⟨#[]⟩, .string ⟨#[]⟩, .string ⟨#[]⟩, .string ⟨#[]⟩, .string ⟨#[]⟩, .string ⟨#[]⟩, .int .i64 0, .bool false, .int .i64 0, .int .i64 0, .int .i64 0] 41)
  rw [World.size_alloc] at HN
  have HBe := Lib.hid (show ∀ o : Obj, Below w.heap.size w ((w.alloc (.cells #[.int .i64 kind, .int .i64 seq, .int .i64 time, .bool copy, .int .i64 a, .int .i64 b, .bool gap, .string text, .string id, .string ref, .string order, .string account, .string symbol, .int .i64 k, .bool buy, .int .i64 qty, .int .i64 price, .int .i64 tm] 41)).alloc o) from fun o => ((Below.refl _ _).alloc (Nat.le_refl _) _).alloc (by rw [World.size_alloc]; omega) _)
  go_upto_region 4 with (first | (refine wpList_load_row rfl 41 _ rfl w.heap.size rfl 41 _ (0, 0) _ HM.out Try.underlying41 rfl infoM ?_) | (refine box_store_at rfl 41 _ _ rfl 0 #[.int .i64 kind, .int .i64 seq, .int .i64 time, .bool copy, .int .i64 a, .int .i64 b, .bool gap, .string text, .string id, .string ref, .string order, .string account, .string symbol, .int .i64 k, .bool buy, .int .i64 qty, .int .i64 price, .int .i64 tm] rfl rfl HN.out (Nat.le_refl 18) infoM (arr_one ⟨kind, seq, time, copy, a, b, gap, text, ⟨id, ref, order, account, symbol, k, buy, qty, price, tm⟩⟩) ?_; go_must (intro w1 hb1 hB1 hK1 hz1; have hbm := (HM.out.alloc (.cells #[.int .i64 0, .int .i64 0, .int .i64 0, .bool false, .int .i64 0, .int .i64 0, .bool false, .string ⟨#[]⟩, .string ⟨#[]⟩, .string ⟨#[]⟩, .string ⟨#[]⟩, .string ⟨#[]⟩, .string ⟨#[]⟩, .int .i64 0, .bool false, .int .i64 0, .int .i64 0, .int .i64 0] 41)).at hK1 (by omega); have hbl := hB1 _ _ (by omega) (HBe.out (.cells #[.int .i64 0, .int .i64 0, .int .i64 0, .bool false, .int .i64 0, .int .i64 0, .bool false, .string ⟨#[]⟩, .string ⟨#[]⟩, .string ⟨#[]⟩, .string ⟨#[]⟩, .string ⟨#[]⟩, .string ⟨#[]⟩, .int .i64 0, .bool false, .int .i64 0, .int .i64 0, .int .i64 0] 41)); clear hB1 hK1; have hb2 := Lib.hid hb1; clear hb1; simp [setAll] at hb2; have q0 := hb2.out.cell 0; have q1 := hb2.out.cell 1; have q2 := hb2.out.cell 2; have q3 := hb2.out.cell 3; have f0 := hb2.out.free 0; have f1 := hb2.out.free 1; have f2 := hb2.out.free 2; have f3 := hb2.out.free 3; simp at q0 q1 q2 q3)))
  clear HN HBe
  have hzz : w.heap.size ≤ w1.heap.size := by rw [hz1, World.size_alloc, World.size_alloc]; omega
  clear hz1
  go_upto_region 5 with fail
  go_cut [4] (fun s4 wx => s4 = .bool true ∧ Box wx w.heap.size 41 #[.int .i64 kind, .int .i64 seq, .int .i64 time, .bool copy, .int .i64 a, .int .i64 b, .bool gap, .string text, .string id, .string ref, .string order, .string account, .string symbol, .int .i64 k, .bool buy, .int .i64 qty, .int .i64 price, .int .i64 tm] ∧ Box wx (w.heap.size + 1) 41 #[.int .i64 0, .int .i64 0, .int .i64 0, .bool false, .int .i64 a, .int .i64 b, .bool gap, .string text, .string id, .string ref, .string order, .string account, .string symbol, .int .i64 k, .bool buy, .int .i64 qty, .int .i64 price, .int .i64 tm] ∧ Below w.heap.size w wx)
  case first =>
    go_wp2
    go_meet
    case rel =>
      have hne : w.heap.size ≠ w.heap.size + 1 := by omega
      refine ⟨rfl, (((hbm.grownBy (grown_set _ _ 0 _) hne).grownBy (grown_set _ _ 1 _) hne).grownBy (grown_set _ _ 2 _) hne).grownBy (grown_set _ _ 3 _) hne, ?_, below_set (by omega) 3 _ (below_set (by omega) 2 _ (below_set (by omega) 1 _ (below_set (by omega) 0 _ hbl)))⟩
      have h := (((hb2.out.set 0 (.int .i64 0)).set 1 (.int .i64 0)).set 2 (.int .i64 0)).set 3 (.bool false)
      simpa using h
  case rest =>
    obtain ⟨rfl, hM, hR, hb⟩ := hcut
    clear hbm hbl hb2 q0 q1 q2 q3 f0 f1 f2 f3 HM hzz w1
    have hq0 := hM.cell 0
    simp at hq0
    have hsz := hR.lt
    have hzz : w.heap.size ≤ wc.heap.size := hb.size
    replace hM := Lib.hid hM
    replace hR := Lib.hid hR
    have HD := Lib.hid hb
    clear hb
    rcases (show kind = 1 ∨ kind = 2 ∨ kind = 3 ∨ kind = 4 ∨ kind = 5 ∨ kind = 6 ∨ kind = 7 ∨ (kind < 1 ∨ 7 < kind) by omega) with rfl | rfl | rfl | rfl | rfl | rfl | rfl | hk
    · skip
      have mq4 := hM.out.cell 4
      simp at mq4
      have rq4 := hR.out.cell 4
      have rf4 := hR.out.free 4
      simp at rq4
      have Sa := Lib.hid (fun w => own_small5 a w)

      rcases hsa : small a with _ | _
      all_goals
        rw [hsa] at Sa
        have hsa' := Lib.hid hsa
        clear hsa
        go_upto_region 21 with (go_at_call 26; refine (Sa.out _).mono ?_; rintro e w' ⟨rfl, rfl⟩)
        replace hR := Lib.hid (hR.out.set 4 (.int .i64 0))
        simp at hR
        clear mq4 rq4 rf4 Sa
        go_wp2_with (first | (go_guarded; refine box_load hR.out 41 _ rfl rfl _ Try.underlying41 rfl infoM ?_) | (go_guarded; refine wp_eqM _ _ rfl ⟨0, 0, 0, false, 0, b, gap, text, ⟨id, ref, order, account, symbol, k, buy, qty, price, tm⟩⟩ Mg.zero rfl rfl ?_))
        all_goals
          go_ret
          refine ⟨retB (HB.out _ ?_), by first | exact HD.out | exact (below_set (by omega) _ _ HD.out).drew | exact below_set (by omega) _ _ HD.out | exact below_set (by omega) _ _ (below_set (by omega) _ _ HD.out)⟩
          have h1 := hsa'.out
          rw [← right_k1 hseq.out hsm.out htm.out htx.out]
          simp [h1]
    · skip
      have rq7 := hR.out.cell 7
      have rf7 := hR.out.free 7
      simp at rq7

      go_upto_region 21 with fail
      replace hR := Lib.hid (hR.out.set 7 (.string ⟨#[]⟩))
      simp at hR
      clear rq7 rf7

      go_wp2_with (first | (go_guarded; refine box_load hR.out 41 _ rfl rfl _ Try.underlying41 rfl infoM ?_) | (go_guarded; refine wp_eqM _ _ rfl ⟨0, 0, 0, false, a, b, gap, eS, ⟨id, ref, order, account, symbol, k, buy, qty, price, tm⟩⟩ Mg.zero rfl rfl ?_))

      all_goals
        go_ret
        refine ⟨retB (HB.out _ ?_), by first | exact HD.out | exact (below_set (by omega) _ _ HD.out).drew | exact below_set (by omega) _ _ HD.out | exact below_set (by omega) _ _ (below_set (by omega) _ _ HD.out)⟩

        rw [← right_k2 hseq.out hsm.out htm.out htx.out]
        simp []
    · skip
      have mq7 := hM.out.cell 7
      simp at mq7
      have rq7 := hR.out.cell 7
      have rf7 := hR.out.free 7
      simp at rq7

      have hte := isE text
      obtain ⟨tb, htb⟩ : ∃ tb, tb = decide (text = eS) := ⟨_, rfl⟩
      rw [← htb] at hte
      have htb' := Lib.hid htb
      clear htb
      rcases tb with _ | _
      all_goals
        go_upto_region 13 with fail
        go_region
        all_goals go_upto_region 21 with fail
        replace hR := Lib.hid (hR.out.set 7 (.string ⟨#[]⟩))
        simp at hR
        clear mq7 rq7 rf7
        go_wp2_with (first | (go_guarded; refine box_load hR.out 41 _ rfl rfl _ Try.underlying41 rfl infoM ?_) | (go_guarded; refine wp_eqM _ _ rfl ⟨0, 0, 0, false, a, b, gap, eS, ⟨id, ref, order, account, symbol, k, buy, qty, price, tm⟩⟩ Mg.zero rfl rfl ?_))
        all_goals
          go_ret
          refine ⟨retB (HB.out _ ?_), by first | exact HD.out | exact (below_set (by omega) _ _ HD.out).drew | exact below_set (by omega) _ _ HD.out | exact below_set (by omega) _ _ (below_set (by omega) _ _ HD.out)⟩
          have h1 := htb'.out
          simp at h1
          rw [← right_k3 hseq.out hsm.out htm.out htx.out]
          simp [h1]
    · skip
      have mq4 := hM.out.cell 4
      have mq5 := hM.out.cell 5
      simp at mq4 mq5
      have rq4 := hR.out.cell 4
      have rf4 := hR.out.free 4
      have rq5 := hR.out.cell 5
      have rf5 := hR.out.free 5
      simp at rq4 rq5
      have Sa := Lib.hid (fun w => own_small5 a w)
      have Sb := Lib.hid (fun w => own_small5 b w)

      rcases hsa : small a with _ | _
      all_goals
        rw [hsa] at Sa
        have hsa' := Lib.hid hsa
        clear hsa
        rcases hsb : small b with _ | _
        all_goals
          rw [hsb] at Sb
          have hsb' := Lib.hid hsb
          clear hsb
          rcases Decidable.em (a = 0) with rfl | ha0
          all_goals
            try have ha1 : (a == 0) = false ∧ (a != 0) = true := ⟨by simpa using ha0, by simpa using ha0⟩
            go_upto_region 21 with (go_at_call 26; first | (refine (Sa.out _).mono ?_; rintro e w' ⟨rfl, rfl⟩) | (refine (Sb.out _).mono ?_; rintro e w' ⟨rfl, rfl⟩))
            replace hR := Lib.hid ((hR.out.set 4 (.int .i64 0)).set 5 (.int .i64 0))
            simp at hR
            clear mq4 mq5 rq4 rf4 rq5 rf5 Sa Sb
            go_wp2_with (first | (go_guarded; refine box_load hR.out 41 _ rfl rfl _ Try.underlying41 rfl infoM ?_) | (go_guarded; refine wp_eqM _ _ rfl ⟨0, 0, 0, false, 0, 0, gap, text, ⟨id, ref, order, account, symbol, k, buy, qty, price, tm⟩⟩ Mg.zero rfl rfl ?_))
            all_goals
              go_ret
              refine ⟨retB (HB.out _ ?_), by first | exact HD.out | exact (below_set (by omega) _ _ HD.out).drew | exact below_set (by omega) _ _ HD.out | exact below_set (by omega) _ _ (below_set (by omega) _ _ HD.out)⟩
              have h1 := hsa'.out
              have h2 := hsb'.out
              rw [← right_k4 hseq.out hsm.out htm.out htx.out]
              simp [*]
    · skip
      have mq4 := hM.out.cell 4
      simp at mq4
      have rq4 := hR.out.cell 4
      have rf4 := hR.out.free 4
      have rq6 := hR.out.cell 6
      have rf6 := hR.out.free 6
      simp at rq4 rq6
      have Sa := Lib.hid (fun w => own_small5 a w)

      rcases hsa : small a with _ | _
      all_goals
        rw [hsa] at Sa
        have hsa' := Lib.hid hsa
        clear hsa
        rcases Decidable.em (a = 0) with rfl | ha0
        all_goals
          try have ha1 : (a == 0) = false ∧ (a != 0) = true := ⟨by simpa using ha0, by simpa using ha0⟩
          go_upto_region 21 with (go_at_call 26; refine (Sa.out _).mono ?_; rintro e w' ⟨rfl, rfl⟩)
          replace hR := Lib.hid ((hR.out.set 4 (.int .i64 0)).set 6 (.bool false))
          simp at hR
          clear mq4 rq4 rf4 rq6 rf6 Sa
          go_wp2_with (first | (go_guarded; refine box_load hR.out 41 _ rfl rfl _ Try.underlying41 rfl infoM ?_) | (go_guarded; refine wp_eqM _ _ rfl ⟨0, 0, 0, false, 0, b, false, text, ⟨id, ref, order, account, symbol, k, buy, qty, price, tm⟩⟩ Mg.zero rfl rfl ?_))
          all_goals
            go_ret
            refine ⟨retB (HB.out _ ?_), by first | exact HD.out | exact (below_set (by omega) _ _ HD.out).drew | exact below_set (by omega) _ _ HD.out | exact below_set (by omega) _ _ (below_set (by omega) _ _ HD.out)⟩
            have h1 := hsa'.out
            rw [← right_k5 hseq.out hsm.out htm.out htx.out]
            simp [*]
    · skip
      go_upto_region 21 with fail

      go_wp2_with (first | (go_guarded; refine box_load hR.out 41 _ rfl rfl _ Try.underlying41 rfl infoM ?_) | (go_guarded; refine wp_eqM _ _ rfl ⟨0, 0, 0, false, a, b, gap, text, ⟨id, ref, order, account, symbol, k, buy, qty, price, tm⟩⟩ Mg.zero rfl rfl ?_))

      all_goals
        go_ret
        refine ⟨retB (HB.out _ ?_), by first | exact HD.out | exact (below_set (by omega) _ _ HD.out).drew | exact below_set (by omega) _ _ HD.out | exact below_set (by omega) _ _ (below_set (by omega) _ _ HD.out)⟩

        rw [← right_k6 hseq.out hsm.out htm.out htx.out]
        simp []
    · skip
      have hrg : wc.rangeAt w.heap.size 8 [.string id, .string ref, .string order, .string account, .string symbol, .int .i64 k, .bool buy, .int .i64 qty, .int .i64 price, .int .i64 tm] := hM.out.range 8
      rcases hxb : excB ⟨id, ref, order, account, symbol, k, buy, qty, price, tm⟩ with _ | _
      all_goals
        rw [hxb] at HX
        have hxb' := Lib.hid hxb
        clear hxb
        go_upto_region 21 with (first | (refine wpList_load_mid rfl 39 _ rfl w.heap.size 8 rfl _ _ hrg Try.underlying39 rfl infoX ?_) | (go_at_call 29; refine (HX.out _).mono ?_; rintro e w2 ⟨rfl, hb2⟩; have hR2 := Lib.hid (hR.out.on hb2); have HD2 := Lib.hid (HD.out.trans (hb2.mono hzz))) | (refine box_store_at rfl 39 _ _ rfl 8 #[.string ⟨#[]⟩, .string ⟨#[]⟩, .string ⟨#[]⟩, .string ⟨#[]⟩, .string ⟨#[]⟩, .int .i64 0, .bool false, .int .i64 0, .int .i64 0, .int .i64 0] rfl rfl hR2.out (Nat.le_refl 18) infoX (xarr_one Exc.zero) ?_; go_must (intro w3 hb3 hB3 _ _; have HD3 := Lib.hid (hB3 _ _ (by omega) HD2.out); clear hR HD; have hR := Lib.hid hb3; have HD := HD3; clear hb3 hB3 HD3 hR2 HD2; simp [setAll] at hR)))
        go_wp2_with (first | (go_guarded; refine box_load hR.out 41 _ rfl rfl _ Try.underlying41 rfl infoM ?_) | (go_guarded; refine wp_eqM _ _ rfl ⟨0, 0, 0, false, a, b, gap, text, Exc.zero⟩ Mg.zero rfl rfl ?_))
        all_goals
          go_ret
          refine ⟨retB (HB.out _ ?_), by first | exact HD.out | exact (below_set (by omega) _ _ HD.out).drew | exact below_set (by omega) _ _ HD.out | exact below_set (by omega) _ _ (below_set (by omega) _ _ HD.out)⟩
          have h1 := hxb'.out
          rw [← right_k7 hseq.out hsm.out htm.out htx.out]
          simp [h1]
    · skip
      have k1 : (kind == 1) = false := by rw [beq_eq_false_iff_ne]; omega
      have k2 : (kind == 2) = false := by rw [beq_eq_false_iff_ne]; omega
      have k3 : (kind == 3) = false := by rw [beq_eq_false_iff_ne]; omega
      have k4 : (kind == 4) = false := by rw [beq_eq_false_iff_ne]; omega
      have k5 : (kind == 5) = false := by rw [beq_eq_false_iff_ne]; omega
      have k6 : (kind == 6) = false := by rw [beq_eq_false_iff_ne]; omega
      have k7 : (kind == 7) = false := by rw [beq_eq_false_iff_ne]; omega
      go_wp2
      go_ret
      refine ⟨retB (HB.out _ ?_), HD.out⟩
      clear HB HX HD hM hR hq0
      rw [msgR_iff]
      simp only [Bool.false_eq_true, false_iff]
      rintro ⟨⟨h, _⟩, _⟩
      omega
end Go.Proofs.Ytblkdmbkkimbpaa
