/-
  Layer 7: the program's own way: Tick: its contract.
-/
import Derived.Test.YtblkdmbkkimbpaaSessConn
namespace Go.Proofs.Ytblkdmbkkimbpaa
open Go.RowKit

set_option maxRecDepth 100000 in
set_option maxHeartbeats 2000000 in
theorem own_Tick7 (s : Ses) (A : Option Addr) (n c : Nat) (now : Int) (W : World) (hl : s.ln.held.length = n) (hn : n ≤ 100000) (h : Sl W A n c 20 (icells s.ln.held)) :
    Calls Try.prog 10 #[.agg (sesArr s A n c), .int .i64 now] W (SayPost (tickS s now) W) := by
  have HI := Lib.hid (((RI.start W).add 29 (sesArr s A n c)).addAt 29 #[.int .i64 0, .int .i64 0, .slice none 0 0, .int .i64 0, .int .i64 0, .int .i64 0, .int .i64 0, .int .i64 0, .int .i64 0, .bool false] (W.heap.size + 1) (by simp)).swap
  have HS := Lib.hid (h.on HI.out.below)
  have HR := Lib.hid (own_Right7 s A n c _ hl HS.out)
  have HC := Lib.hid (fun (w : World) (h : Sl w A n c 20 (icells s.ln.held)) => own_copied s A n c hl hn w h)
  have HL := Lib.hid hl
  have HTm := Lib.hid (fun w : World => own_isTime7 now w)
  clear h hl
  by_cases hbad : (s.rightB && tmB now) = false
  · have HF := Lib.hid (show tickS s now = (s, [], 1) from if_pos hbad)
    rcases hr : s.rightB with _ | _
    · rw [hr] at HR
      clear hr hbad
      go_enter Try.func10, Try.ntmps10
      go_upto_region 1 with (fail)
      go_wp2_with (first | (refine wpList_load_row rfl 29 (.tmp 2) rfl _ rfl 29 (sesArr s A n c) (0, 0) _ HI.out.bx Try.underlying29 rfl infoS ?_) | (go_at_call 11; refine HR.out.mono ?_; rintro e w2 ⟨rfl, hb2⟩; have HI := Lib.hid (HI.out.on hb2); have HS := Lib.hid (HS.out.on hb2); clear hb2) | (go_at_call 15; refine (HC.out _ HS.out).mono ?_; rintro e w3 ⟨A3, c3, rfl, hs3, -, hb3⟩; have HI := Lib.hid (HI.out.on hb3).swap; have HS3 := Lib.hid hs3; clear hs3 hb3) | (refine ri_put rfl 29 (.tmp 4) (.tmp 17) rfl (sesArr s A3 n c3) rfl rfl HI.out rfl infoS (ses_one _ _ _ _) ?_; intro w4 hI4 hf4; have HS4 := Lib.hid (HS3.out.farI HI.out.bx (Nat.le_refl 10) hf4); have HI4 := Lib.hid hI4; clear hI4 hf4))
      refine bodyPost_ret (results_cell_tmp2 Try.results10 _ _ _ _ _ (0, 0) _ rfl HI4.out.bx Try.underlying29 rfl infoS) rfl ?_
      unfold SayPost
      rw [HF.out]
      exact ⟨A3, n, c3, none, 0, 0, rfl, HL.out, rfl, HS4.out, Sl.none_ _ _, HI4.out.below⟩
    · rw [hr] at HR
      rw [show tmB now = false from by rw [hr] at hbad; simpa using hbad] at HTm
      clear hr hbad
      go_enter Try.func10, Try.ntmps10
      go_upto_region 1 with (fail)
      go_wp2_with (first | (refine wpList_load_row rfl 29 (.tmp 2) rfl _ rfl 29 (sesArr s A n c) (0, 0) _ HI.out.bx Try.underlying29 rfl infoS ?_) | (go_at_call 11; refine HR.out.mono ?_; rintro e w2 ⟨rfl, hb2⟩; have HI := Lib.hid (HI.out.on hb2); have HS := Lib.hid (HS.out.on hb2); clear hb2) | (go_at_call 14; refine (HTm.out _).mono ?_; rintro e w' ⟨rfl, rfl⟩) | (go_at_call 15; refine (HC.out _ HS.out).mono ?_; rintro e w3 ⟨A3, c3, rfl, hs3, -, hb3⟩; have HI := Lib.hid (HI.out.on hb3).swap; have HS3 := Lib.hid hs3; clear hs3 hb3) | (refine ri_put rfl 29 (.tmp 4) (.tmp 17) rfl (sesArr s A3 n c3) rfl rfl HI.out rfl infoS (ses_one _ _ _ _) ?_; intro w4 hI4 hf4; have HS4 := Lib.hid (HS3.out.farI HI.out.bx (Nat.le_refl 10) hf4); have HI4 := Lib.hid hI4; clear hI4 hf4))
      refine bodyPost_ret (results_cell_tmp2 Try.results10 _ _ _ _ _ (0, 0) _ rfl HI4.out.bx Try.underlying29 rfl infoS) rfl ?_
      unfold SayPost
      rw [HF.out]
      exact ⟨A3, n, c3, none, 0, 0, rfl, HL.out, rfl, HS4.out, Sl.none_ _ _, HI4.out.below⟩
  · have hg : s.rightB = true ∧ tmB now = true := by
      have h : (s.rightB && tmB now) = true := by cases h : (s.rightB && tmB now) <;> simp_all
      simpa using h
    have hRR := Ses.right_iff.1 hg.1
    have hnow : 0 ≤ now ∧ now ≤ 4611686018427387904 := by have := hg.2; simpa [tmB] using this
    have he := hRR.every
    rw [hg.1] at HR
    rw [hg.2] at HTm
    have hst := hRR.st
    by_cases h0 : s.st = 0
    · obtain ⟨q, hq⟩ : ∃ q : Ses × List Mg, q = (s, []) := ⟨_, rfl⟩
      have HF := Lib.hid (show tickS s now = (q.1, q.2, 0) from ((if_neg hbad).trans (if_pos h0)).trans (by rw [hq]))
      have HQ := Lib.hid hq
      have h0b : (s.st == 0) = true := by rw [beq_iff_eq]; exact h0
      clear hbad hg hq
      go_enter Try.func10, Try.ntmps10
      go_upto_region 1 with (fail)
      go_upto_region 3 with (first | (refine wpList_load_row rfl 29 (.tmp 2) rfl _ rfl 29 (sesArr s A n c) (0, 0) _ HI.out.bx Try.underlying29 rfl infoS ?_) | (go_at_call 11; refine HR.out.mono ?_; rintro e w2 ⟨rfl, hb2⟩; have HI := Lib.hid (HI.out.on hb2); have HS := Lib.hid (HS.out.on hb2); clear hb2) | (go_at_call 14; refine (HTm.out _).mono ?_; rintro e w' ⟨rfl, rfl⟩))
      go_upto_region 4 with (first | (refine wpList_load_row rfl 29 (.tmp 2) rfl _ rfl 29 (sesArr s A n c) (0, 0) _ HI.out.bx Try.underlying29 rfl infoS ?_) | (go_at_call 15; refine (HC.out _ HS.out).mono ?_; rintro e w3 ⟨A3, c3, rfl, hs3, -, hb3⟩; have HI3 := Lib.hid (HI.out.on hb3).swap; have HS3 := Lib.hid hs3; clear hs3 hb3) | (refine wpList_build_tk rfl (.tmp 19) (.tmp 20) rfl s A3 n c3 now rfl rfl ?_) | (refine ri_put rfl 49 (.tmp 7) (.tmp 21) rfl (tkArr s A3 n c3 now (.slice none 0 0)) rfl rfl ((RI.start w3).add 49 _) rfl infoTk (tk_one _ _ _ _ _) ?_; intro w4 hI4 _; have HT := Lib.hid (TI.mk0 hI4 HL.out HS3.out); clear hI4))
      clear HR HC HTm HS HI
      have f0 := ((HI3.out.swap.on HT.out.below).cell 0).trans (show _ = some (Value.int .i64 s.st) from rfl)
      have f5 := ((HI3.out.swap.on HT.out.below).cell 5).trans (show _ = some (Value.int .i64 s.heard) from rfl)
      have HA := Lib.hid (fun q => own_ago w3 w3.heap.size s A3 n c3 now (.slice none 0 0) [] (w4.drewN q) (HT.out.dn q) 3 (by decide) hnow he)
      go_upto_region 9 with (fail)
      have HT9 : Hid (TI w3 w3.heap.size q.1 A3 n c3 now (.slice none 0 0) (.slice none 0 0) q.2 w4) := by rw [HQ.out]; exact HT
      generalize (Value.slice none 0 0) = v9 at HT9
      have HI9 := Lib.hid (HI3.out.swap.on HT9.out.below)
      clear HT HA f0 f5
      obtain ⟨B9, d9, rfl, hsB, -⟩ := Sl.of_own HT9.out.mj.own
      have hTd := HT9.out.on (Below.refl _ _).drew
      have hId := (HI9.out.on (Below.refl _ _).drew).swap
      refine wp_region_held_drew (S := fun V => Box V w3.heap.size 49 (tkArr q.1 A3 n c3 now (.slice B9 q.2.length d9))) (by kernel_rfl) hTd.box (fun hHeld => ?_)
      refine wpAnyH_take (i := 0) (v := .pointer (some ⟨w3.heap.size, 0, none⟩)) (at_place rfl) (by kernel_rfl) (by kernel_rfl) (by kernel_rfl) (fun _ _ _ h => h) (Or.inl ⟨by rfl, fun V hV => by go_simp⟩) hHeld ?_; try simp only [Act.put, List.setIfInBounds_toArray, List.set_cons_zero, List.set_cons_succ]
      refine wpAnyH_take (i := 1) (v := .agg (sesArr q.1 A3 n c3)) (at_place rfl) (by kernel_rfl) (by kernel_rfl) (by kernel_rfl) (fun _ _ _ h => h) (y_mid _ rfl (fun V hV => tk_mid hV) 29 _ rfl rfl _ Try.underlying29 rfl infoS) hHeld ?_; try simp only [Act.put, List.setIfInBounds_toArray, List.set_cons_zero, List.set_cons_succ]
      refine wpAnyH_take (i := 2) (v := .pointer (some ⟨w3.heap.size, 11, none⟩)) (at_place rfl) (by kernel_rfl) (by kernel_rfl) (by kernel_rfl) (fun _ _ _ h => h) (Or.inl ⟨by rfl, fun V hV => by go_simp⟩) hHeld ?_; try simp only [Act.put, List.setIfInBounds_toArray, List.set_cons_zero, List.set_cons_succ]
      refine wpAnyH_take (i := 3) (v := .slice B9 q.2.length d9) (at_place rfl) (by kernel_rfl) (by kernel_rfl) (by kernel_rfl) (fun _ _ _ h => h) (Or.inl ⟨by rfl, fun V hV => by have c11 := (hV.cell 11).trans (show _ = some (Value.slice B9 q.2.length d9) from rfl); go_simp⟩) hHeld ?_; try simp only [Act.put, List.setIfInBounds_toArray, List.set_cons_zero, List.set_cons_succ]
      refine wpAnyH_ready (rs := [4]) (by kernel_rfl) (by simp) ?_
      refine AllReadyH.cons (at_place rfl) (fun K hK => ?_) AllReadyH.nil
      refine step_put rfl 29 (.tmp 4) _ rfl (sesArr q.1 A3 n c3) rfl rfl hId rfl infoS (ses_one _ _ _ _) ?_
      intro w5 hI5 hf5
      have hne : w3.heap.size ≠ W.heap.size + 1 := by have := HI3.out.bx.lt; omega
      refine hK.out _ _ ((show w5.heap[w3.heap.size]? = _ from hf5 _ hne).trans hTd.box) (fun hHeld => ?_)
      clear hK K
      try simp only [Act.put]
      refine wpAnyH_take (i := 5) (v := .slice B9 q.2.length d9) (at_place rfl) (by kernel_rfl) (by kernel_rfl) (by kernel_rfl) (fun _ _ _ h => h) (Or.inl ⟨by rfl, fun V hV => by go_simp⟩) hHeld ?_; try simp only [Act.put, List.setIfInBounds_toArray, List.set_cons_zero, List.set_cons_succ]
      refine wpAnyH_take (i := 6) (v := .int .i64 0) (at_place rfl) (by kernel_rfl) (by kernel_rfl) (by kernel_rfl) (fun _ _ _ h => h) (Or.inl ⟨by rfl, fun V hV => by go_simp⟩) hHeld ?_; try simp only [Act.put, List.setIfInBounds_toArray, List.set_cons_zero, List.set_cons_succ]
      refine wpAnyH_done (by kernel_rfl) ?_ _
      go_wp2_with fail
      refine bodyPost_ret (results_cell_tmp2 Try.results10 _ _ _ _ _ (0, 0) _ rfl hI5.bx Try.underlying29 rfl infoS) rfl ?_
      unfold SayPost
      rw [HF.out]
      exact ⟨A3, n, c3, B9, _, d9, rfl, hTd.hn, rfl, hTd.sl.farI hId.bx (Nat.le_refl 10) hf5, (hsB.on (Below.refl _ _).drew).farM hId.bx (Nat.le_refl 10) hf5, hI5.below⟩
    · have h0b : (s.st == 0) = false := by rw [beq_eq_false_iff_ne]; exact h0
      by_cases h3 : 3 * s.every ≤ now - s.heard
      · obtain ⟨q, hq⟩ : ∃ q : Ses × List Mg, q = ({ s with st := 0 }, []) := ⟨_, rfl⟩
        have HF := Lib.hid (show tickS s now = (q.1, q.2, 0) from ((if_neg hbad).trans ((if_neg h0).trans (if_pos h3))).trans (by rw [hq]))
        have HQ := Lib.hid hq
        have h3b : decide (s.heard ≤ now - 3 * s.every) = true := decide_eq_true (by omega)
        clear hbad hg hq h3
        go_enter Try.func10, Try.ntmps10
        go_upto_region 1 with (fail)
        go_upto_region 3 with (first | (refine wpList_load_row rfl 29 (.tmp 2) rfl _ rfl 29 (sesArr s A n c) (0, 0) _ HI.out.bx Try.underlying29 rfl infoS ?_) | (go_at_call 11; refine HR.out.mono ?_; rintro e w2 ⟨rfl, hb2⟩; have HI := Lib.hid (HI.out.on hb2); have HS := Lib.hid (HS.out.on hb2); clear hb2) | (go_at_call 14; refine (HTm.out _).mono ?_; rintro e w' ⟨rfl, rfl⟩))
        go_upto_region 4 with (first | (refine wpList_load_row rfl 29 (.tmp 2) rfl _ rfl 29 (sesArr s A n c) (0, 0) _ HI.out.bx Try.underlying29 rfl infoS ?_) | (go_at_call 15; refine (HC.out _ HS.out).mono ?_; rintro e w3 ⟨A3, c3, rfl, hs3, -, hb3⟩; have HI3 := Lib.hid (HI.out.on hb3).swap; have HS3 := Lib.hid hs3; clear hs3 hb3) | (refine wpList_build_tk rfl (.tmp 19) (.tmp 20) rfl s A3 n c3 now rfl rfl ?_) | (refine ri_put rfl 49 (.tmp 7) (.tmp 21) rfl (tkArr s A3 n c3 now (.slice none 0 0)) rfl rfl ((RI.start w3).add 49 _) rfl infoTk (tk_one _ _ _ _ _) ?_; intro w4 hI4 _; have HT := Lib.hid (TI.mk0 hI4 HL.out HS3.out); clear hI4))
        clear HR HC HTm HS HI
        have f0 := ((HI3.out.swap.on HT.out.below).cell 0).trans (show _ = some (Value.int .i64 s.st) from rfl)
        have f5 := ((HI3.out.swap.on HT.out.below).cell 5).trans (show _ = some (Value.int .i64 s.heard) from rfl)
        have HA := Lib.hid (fun q => own_ago w3 w3.heap.size s A3 n c3 now (.slice none 0 0) [] (w4.drewN q) (HT.out.dn q) 3 (by decide) hnow he)
        go_upto_region 5 with (fail)
        go_quiet (first | (go_at_call 22; exact Calls.quiet_of (HA.out _)))
        have HTq := Lib.hid (HT.out.dn nq)
        go_upto_region 9 with (first | (refine ti_put1 rfl 3 (.tmp 32) (.const (.int .i64 0)) rfl 0 (.int .i64 0) { s with st := 0 } now (.slice none 0 0) rfl rfl rfl HTq.out (by decide) (by kernel_rfl) rfl rfl ?_; intro w5 hT5 _; have HTa := Lib.hid hT5; clear hT5))
        have HT9 : Hid (TI w3 w3.heap.size q.1 A3 n c3 now (.slice none 0 0) (.slice none 0 0) q.2 w5) := by rw [HQ.out]; exact HTa
        generalize (Value.slice none 0 0) = v9 at HT9
        have HI9 := Lib.hid (HI3.out.swap.on HT9.out.below)
        clear HT HA f0 f5
        obtain ⟨B9, d9, rfl, hsB, -⟩ := Sl.of_own HT9.out.mj.own
        have hTd := HT9.out.on (Below.refl _ _).drew
        have hId := (HI9.out.on (Below.refl _ _).drew).swap
        refine wp_region_held_drew (S := fun V => Box V w3.heap.size 49 (tkArr q.1 A3 n c3 now (.slice B9 q.2.length d9))) (by kernel_rfl) hTd.box (fun hHeld => ?_)
        refine wpAnyH_take (i := 0) (v := .pointer (some ⟨w3.heap.size, 0, none⟩)) (at_place rfl) (by kernel_rfl) (by kernel_rfl) (by kernel_rfl) (fun _ _ _ h => h) (Or.inl ⟨by rfl, fun V hV => by go_simp⟩) hHeld ?_; try simp only [Act.put, List.setIfInBounds_toArray, List.set_cons_zero, List.set_cons_succ]
        refine wpAnyH_take (i := 1) (v := .agg (sesArr q.1 A3 n c3)) (at_place rfl) (by kernel_rfl) (by kernel_rfl) (by kernel_rfl) (fun _ _ _ h => h) (y_mid _ rfl (fun V hV => tk_mid hV) 29 _ rfl rfl _ Try.underlying29 rfl infoS) hHeld ?_; try simp only [Act.put, List.setIfInBounds_toArray, List.set_cons_zero, List.set_cons_succ]
        refine wpAnyH_take (i := 2) (v := .pointer (some ⟨w3.heap.size, 11, none⟩)) (at_place rfl) (by kernel_rfl) (by kernel_rfl) (by kernel_rfl) (fun _ _ _ h => h) (Or.inl ⟨by rfl, fun V hV => by go_simp⟩) hHeld ?_; try simp only [Act.put, List.setIfInBounds_toArray, List.set_cons_zero, List.set_cons_succ]
        refine wpAnyH_take (i := 3) (v := .slice B9 q.2.length d9) (at_place rfl) (by kernel_rfl) (by kernel_rfl) (by kernel_rfl) (fun _ _ _ h => h) (Or.inl ⟨by rfl, fun V hV => by have c11 := (hV.cell 11).trans (show _ = some (Value.slice B9 q.2.length d9) from rfl); go_simp⟩) hHeld ?_; try simp only [Act.put, List.setIfInBounds_toArray, List.set_cons_zero, List.set_cons_succ]
        refine wpAnyH_ready (rs := [4]) (by kernel_rfl) (by simp) ?_
        refine AllReadyH.cons (at_place rfl) (fun K hK => ?_) AllReadyH.nil
        refine step_put rfl 29 (.tmp 4) _ rfl (sesArr q.1 A3 n c3) rfl rfl hId rfl infoS (ses_one _ _ _ _) ?_
        intro w5 hI5 hf5
        have hne : w3.heap.size ≠ W.heap.size + 1 := by have := HI3.out.bx.lt; omega
        refine hK.out _ _ ((show w5.heap[w3.heap.size]? = _ from hf5 _ hne).trans hTd.box) (fun hHeld => ?_)
        clear hK K
        try simp only [Act.put]
        refine wpAnyH_take (i := 5) (v := .slice B9 q.2.length d9) (at_place rfl) (by kernel_rfl) (by kernel_rfl) (by kernel_rfl) (fun _ _ _ h => h) (Or.inl ⟨by rfl, fun V hV => by go_simp⟩) hHeld ?_; try simp only [Act.put, List.setIfInBounds_toArray, List.set_cons_zero, List.set_cons_succ]
        refine wpAnyH_take (i := 6) (v := .int .i64 0) (at_place rfl) (by kernel_rfl) (by kernel_rfl) (by kernel_rfl) (fun _ _ _ h => h) (Or.inl ⟨by rfl, fun V hV => by go_simp⟩) hHeld ?_; try simp only [Act.put, List.setIfInBounds_toArray, List.set_cons_zero, List.set_cons_succ]
        refine wpAnyH_done (by kernel_rfl) ?_ _
        go_wp2_with fail
        refine bodyPost_ret (results_cell_tmp2 Try.results10 _ _ _ _ _ (0, 0) _ rfl hI5.bx Try.underlying29 rfl infoS) rfl ?_
        unfold SayPost
        rw [HF.out]
        exact ⟨A3, n, c3, B9, _, d9, rfl, hTd.hn, rfl, hTd.sl.farI hId.bx (Nat.le_refl 10) hf5, (hsB.on (Below.refl _ _).drew).farM hId.bx (Nat.le_refl 10) hf5, hI5.below⟩
      · have h3b : decide (s.heard ≤ now - 3 * s.every) = false := decide_eq_false (by omega)
        by_cases h1 : s.st = 1
        · obtain ⟨q, hq⟩ : ∃ q : Ses × List Mg, q = (s, []) := ⟨_, rfl⟩
          have HF := Lib.hid (show tickS s now = (q.1, q.2, 0) from ((if_neg hbad).trans ((if_neg h0).trans ((if_neg h3).trans (if_pos h1)))).trans (by rw [hq]))
          have HQ := Lib.hid hq
          have h2b : (s.st == 2) = false := by rw [beq_eq_false_iff_ne]; omega
          clear hbad hg hq h3
          go_enter Try.func10, Try.ntmps10
          go_upto_region 1 with (fail)
          go_upto_region 3 with (first | (refine wpList_load_row rfl 29 (.tmp 2) rfl _ rfl 29 (sesArr s A n c) (0, 0) _ HI.out.bx Try.underlying29 rfl infoS ?_) | (go_at_call 11; refine HR.out.mono ?_; rintro e w2 ⟨rfl, hb2⟩; have HI := Lib.hid (HI.out.on hb2); have HS := Lib.hid (HS.out.on hb2); clear hb2) | (go_at_call 14; refine (HTm.out _).mono ?_; rintro e w' ⟨rfl, rfl⟩))
          go_upto_region 4 with (first | (refine wpList_load_row rfl 29 (.tmp 2) rfl _ rfl 29 (sesArr s A n c) (0, 0) _ HI.out.bx Try.underlying29 rfl infoS ?_) | (go_at_call 15; refine (HC.out _ HS.out).mono ?_; rintro e w3 ⟨A3, c3, rfl, hs3, -, hb3⟩; have HI3 := Lib.hid (HI.out.on hb3).swap; have HS3 := Lib.hid hs3; clear hs3 hb3) | (refine wpList_build_tk rfl (.tmp 19) (.tmp 20) rfl s A3 n c3 now rfl rfl ?_) | (refine ri_put rfl 49 (.tmp 7) (.tmp 21) rfl (tkArr s A3 n c3 now (.slice none 0 0)) rfl rfl ((RI.start w3).add 49 _) rfl infoTk (tk_one _ _ _ _ _) ?_; intro w4 hI4 _; have HT := Lib.hid (TI.mk0 hI4 HL.out HS3.out); clear hI4))
          clear HR HC HTm HS HI
          have f0 := ((HI3.out.swap.on HT.out.below).cell 0).trans (show _ = some (Value.int .i64 s.st) from rfl)
          have f5 := ((HI3.out.swap.on HT.out.below).cell 5).trans (show _ = some (Value.int .i64 s.heard) from rfl)
          have HA := Lib.hid (fun q => own_ago w3 w3.heap.size s A3 n c3 now (.slice none 0 0) [] (w4.drewN q) (HT.out.dn q) 3 (by decide) hnow he)
          go_upto_region 5 with (fail)
          go_quiet (first | (go_at_call 22; exact Calls.quiet_of (HA.out _)))
          have HTq := Lib.hid (HT.out.dn nq)
          have f0 := ((HI3.out.swap.on HTq.out.below).cell 0).trans (show _ = some (Value.int .i64 s.st) from rfl)
          go_upto_region 9 with (fail)
          have HT9 : Hid (TI w3 w3.heap.size q.1 A3 n c3 now (.slice none 0 0) (.slice none 0 0) q.2 (w4.drewN nq)) := by rw [HQ.out]; exact HTq
          generalize (Value.slice none 0 0) = v9 at HT9
          have HI9 := Lib.hid (HI3.out.swap.on HT9.out.below)
          clear HT HA f0 f5
          obtain ⟨B9, d9, rfl, hsB, -⟩ := Sl.of_own HT9.out.mj.own
          have hTd := HT9.out.on (Below.refl _ _).drew
          have hId := (HI9.out.on (Below.refl _ _).drew).swap
          refine wp_region_held_drew (S := fun V => Box V w3.heap.size 49 (tkArr q.1 A3 n c3 now (.slice B9 q.2.length d9))) (by kernel_rfl) hTd.box (fun hHeld => ?_)
          refine wpAnyH_take (i := 0) (v := .pointer (some ⟨w3.heap.size, 0, none⟩)) (at_place rfl) (by kernel_rfl) (by kernel_rfl) (by kernel_rfl) (fun _ _ _ h => h) (Or.inl ⟨by rfl, fun V hV => by go_simp⟩) hHeld ?_; try simp only [Act.put, List.setIfInBounds_toArray, List.set_cons_zero, List.set_cons_succ]
          refine wpAnyH_take (i := 1) (v := .agg (sesArr q.1 A3 n c3)) (at_place rfl) (by kernel_rfl) (by kernel_rfl) (by kernel_rfl) (fun _ _ _ h => h) (y_mid _ rfl (fun V hV => tk_mid hV) 29 _ rfl rfl _ Try.underlying29 rfl infoS) hHeld ?_; try simp only [Act.put, List.setIfInBounds_toArray, List.set_cons_zero, List.set_cons_succ]
          refine wpAnyH_take (i := 2) (v := .pointer (some ⟨w3.heap.size, 11, none⟩)) (at_place rfl) (by kernel_rfl) (by kernel_rfl) (by kernel_rfl) (fun _ _ _ h => h) (Or.inl ⟨by rfl, fun V hV => by go_simp⟩) hHeld ?_; try simp only [Act.put, List.setIfInBounds_toArray, List.set_cons_zero, List.set_cons_succ]
          refine wpAnyH_take (i := 3) (v := .slice B9 q.2.length d9) (at_place rfl) (by kernel_rfl) (by kernel_rfl) (by kernel_rfl) (fun _ _ _ h => h) (Or.inl ⟨by rfl, fun V hV => by have c11 := (hV.cell 11).trans (show _ = some (Value.slice B9 q.2.length d9) from rfl); go_simp⟩) hHeld ?_; try simp only [Act.put, List.setIfInBounds_toArray, List.set_cons_zero, List.set_cons_succ]
          refine wpAnyH_ready (rs := [4]) (by kernel_rfl) (by simp) ?_
          refine AllReadyH.cons (at_place rfl) (fun K hK => ?_) AllReadyH.nil
          refine step_put rfl 29 (.tmp 4) _ rfl (sesArr q.1 A3 n c3) rfl rfl hId rfl infoS (ses_one _ _ _ _) ?_
          intro w5 hI5 hf5
          have hne : w3.heap.size ≠ W.heap.size + 1 := by have := HI3.out.bx.lt; omega
          refine hK.out _ _ ((show w5.heap[w3.heap.size]? = _ from hf5 _ hne).trans hTd.box) (fun hHeld => ?_)
          clear hK K
          try simp only [Act.put]
          refine wpAnyH_take (i := 5) (v := .slice B9 q.2.length d9) (at_place rfl) (by kernel_rfl) (by kernel_rfl) (by kernel_rfl) (fun _ _ _ h => h) (Or.inl ⟨by rfl, fun V hV => by go_simp⟩) hHeld ?_; try simp only [Act.put, List.setIfInBounds_toArray, List.set_cons_zero, List.set_cons_succ]
          refine wpAnyH_take (i := 6) (v := .int .i64 0) (at_place rfl) (by kernel_rfl) (by kernel_rfl) (by kernel_rfl) (fun _ _ _ h => h) (Or.inl ⟨by rfl, fun V hV => by go_simp⟩) hHeld ?_; try simp only [Act.put, List.setIfInBounds_toArray, List.set_cons_zero, List.set_cons_succ]
          refine wpAnyH_done (by kernel_rfl) ?_ _
          go_wp2_with fail
          refine bodyPost_ret (results_cell_tmp2 Try.results10 _ _ _ _ _ (0, 0) _ rfl hI5.bx Try.underlying29 rfl infoS) rfl ?_
          unfold SayPost
          rw [HF.out]
          exact ⟨A3, n, c3, B9, _, d9, rfl, hTd.hn, rfl, hTd.sl.farI hId.bx (Nat.le_refl 10) hf5, (hsB.on (Below.refl _ _).drew).farM hId.bx (Nat.le_refl 10) hf5, hI5.below⟩
        · have h2 : s.st = 2 := by omega
          obtain ⟨q, hq⟩ : ∃ q : Ses × List Mg, q = waitS s now := ⟨_, rfl⟩
          have HF := Lib.hid (show tickS s now = (q.1, q.2, 0) from ((if_neg hbad).trans ((if_neg h0).trans ((if_neg h3).trans (if_neg h1)))).trans (by rw [hq]; rfl))
          have HQ := Lib.hid hq
          have h2b : (s.st == 2) = true := by rw [beq_iff_eq]; exact h2
          clear hbad hg hq h3
          go_enter Try.func10, Try.ntmps10
          go_upto_region 1 with (fail)
          go_upto_region 3 with (first | (refine wpList_load_row rfl 29 (.tmp 2) rfl _ rfl 29 (sesArr s A n c) (0, 0) _ HI.out.bx Try.underlying29 rfl infoS ?_) | (go_at_call 11; refine HR.out.mono ?_; rintro e w2 ⟨rfl, hb2⟩; have HI := Lib.hid (HI.out.on hb2); have HS := Lib.hid (HS.out.on hb2); clear hb2) | (go_at_call 14; refine (HTm.out _).mono ?_; rintro e w' ⟨rfl, rfl⟩))
          go_upto_region 4 with (first | (refine wpList_load_row rfl 29 (.tmp 2) rfl _ rfl 29 (sesArr s A n c) (0, 0) _ HI.out.bx Try.underlying29 rfl infoS ?_) | (go_at_call 15; refine (HC.out _ HS.out).mono ?_; rintro e w3 ⟨A3, c3, rfl, hs3, -, hb3⟩; have HI3 := Lib.hid (HI.out.on hb3).swap; have HS3 := Lib.hid hs3; clear hs3 hb3) | (refine wpList_build_tk rfl (.tmp 19) (.tmp 20) rfl s A3 n c3 now rfl rfl ?_) | (refine ri_put rfl 49 (.tmp 7) (.tmp 21) rfl (tkArr s A3 n c3 now (.slice none 0 0)) rfl rfl ((RI.start w3).add 49 _) rfl infoTk (tk_one _ _ _ _ _) ?_; intro w4 hI4 _; have HT := Lib.hid (TI.mk0 hI4 HL.out HS3.out); clear hI4))
          clear HR HC HTm HS HI
          have f0 := ((HI3.out.swap.on HT.out.below).cell 0).trans (show _ = some (Value.int .i64 s.st) from rfl)
          have f5 := ((HI3.out.swap.on HT.out.below).cell 5).trans (show _ = some (Value.int .i64 s.heard) from rfl)
          have HA := Lib.hid (fun q => own_ago w3 w3.heap.size s A3 n c3 now (.slice none 0 0) [] (w4.drewN q) (HT.out.dn q) 3 (by decide) hnow he)
          go_upto_region 5 with (fail)
          go_quiet (first | (go_at_call 22; exact Calls.quiet_of (HA.out _)))
          have HTq := Lib.hid (HT.out.dn nq)
          have f0 := ((HI3.out.swap.on HTq.out.below).cell 0).trans (show _ = some (Value.int .i64 s.st) from rfl)
          have HWt := Lib.hid (own_wait _ _ _ _ _ _ _ _ _ _ HTq.out (Nat.zero_le _) hRR h2 hnow)
          rw [← HQ.out] at HWt
          go_upto_region 9 with (first | (go_at_call 23; refine HWt.out.mono ?_; rintro e w5 ⟨⟨x5, rfl⟩, v9, hT9⟩; rw [List.nil_append] at hT9; have HT9 := Lib.hid hT9; clear hT9))
          clear HTq HWt
          have HI9 := Lib.hid (HI3.out.swap.on HT9.out.below)
          clear HT HA f0 f5
          obtain ⟨B9, d9, rfl, hsB, -⟩ := Sl.of_own HT9.out.mj.own
          have hTd := HT9.out.on (Below.refl _ _).drew
          have hId := (HI9.out.on (Below.refl _ _).drew).swap
          refine wp_region_held_drew (S := fun V => Box V w3.heap.size 49 (tkArr q.1 A3 n c3 now (.slice B9 q.2.length d9))) (by kernel_rfl) hTd.box (fun hHeld => ?_)
          refine wpAnyH_take (i := 0) (v := .pointer (some ⟨w3.heap.size, 0, none⟩)) (at_place rfl) (by kernel_rfl) (by kernel_rfl) (by kernel_rfl) (fun _ _ _ h => h) (Or.inl ⟨by rfl, fun V hV => by go_simp⟩) hHeld ?_; try simp only [Act.put, List.setIfInBounds_toArray, List.set_cons_zero, List.set_cons_succ]
          refine wpAnyH_take (i := 1) (v := .agg (sesArr q.1 A3 n c3)) (at_place rfl) (by kernel_rfl) (by kernel_rfl) (by kernel_rfl) (fun _ _ _ h => h) (y_mid _ rfl (fun V hV => tk_mid hV) 29 _ rfl rfl _ Try.underlying29 rfl infoS) hHeld ?_; try simp only [Act.put, List.setIfInBounds_toArray, List.set_cons_zero, List.set_cons_succ]
          refine wpAnyH_take (i := 2) (v := .pointer (some ⟨w3.heap.size, 11, none⟩)) (at_place rfl) (by kernel_rfl) (by kernel_rfl) (by kernel_rfl) (fun _ _ _ h => h) (Or.inl ⟨by rfl, fun V hV => by go_simp⟩) hHeld ?_; try simp only [Act.put, List.setIfInBounds_toArray, List.set_cons_zero, List.set_cons_succ]
          refine wpAnyH_take (i := 3) (v := .slice B9 q.2.length d9) (at_place rfl) (by kernel_rfl) (by kernel_rfl) (by kernel_rfl) (fun _ _ _ h => h) (Or.inl ⟨by rfl, fun V hV => by have c11 := (hV.cell 11).trans (show _ = some (Value.slice B9 q.2.length d9) from rfl); go_simp⟩) hHeld ?_; try simp only [Act.put, List.setIfInBounds_toArray, List.set_cons_zero, List.set_cons_succ]
          refine wpAnyH_ready (rs := [4]) (by kernel_rfl) (by simp) ?_
          refine AllReadyH.cons (at_place rfl) (fun K hK => ?_) AllReadyH.nil
          refine step_put rfl 29 (.tmp 4) _ rfl (sesArr q.1 A3 n c3) rfl rfl hId rfl infoS (ses_one _ _ _ _) ?_
          intro w5 hI5 hf5
          have hne : w3.heap.size ≠ W.heap.size + 1 := by have := HI3.out.bx.lt; omega
          refine hK.out _ _ ((show w5.heap[w3.heap.size]? = _ from hf5 _ hne).trans hTd.box) (fun hHeld => ?_)
          clear hK K
          try simp only [Act.put]
          refine wpAnyH_take (i := 5) (v := .slice B9 q.2.length d9) (at_place rfl) (by kernel_rfl) (by kernel_rfl) (by kernel_rfl) (fun _ _ _ h => h) (Or.inl ⟨by rfl, fun V hV => by go_simp⟩) hHeld ?_; try simp only [Act.put, List.setIfInBounds_toArray, List.set_cons_zero, List.set_cons_succ]
          refine wpAnyH_take (i := 6) (v := .int .i64 0) (at_place rfl) (by kernel_rfl) (by kernel_rfl) (by kernel_rfl) (fun _ _ _ h => h) (Or.inl ⟨by rfl, fun V hV => by go_simp⟩) hHeld ?_; try simp only [Act.put, List.setIfInBounds_toArray, List.set_cons_zero, List.set_cons_succ]
          refine wpAnyH_done (by kernel_rfl) ?_ _
          go_wp2_with fail
          refine bodyPost_ret (results_cell_tmp2 Try.results10 _ _ _ _ _ (0, 0) _ rfl hI5.bx Try.underlying29 rfl infoS) rfl ?_
          unfold SayPost
          rw [HF.out]
          exact ⟨A3, n, c3, B9, _, d9, rfl, hTd.hn, rfl, hTd.sl.farI hId.bx (Nat.le_refl 10) hf5, (hsB.on (Below.refl _ _).drew).farM hId.bx (Nat.le_refl 10) hf5, hI5.below⟩
end Go.Proofs.Ytblkdmbkkimbpaa
