/-
  Layer 7: the program's own way: Come: its contract; the contracts of all of layer 7's calls.
-/
import Derived.Test.YtblkdmbkkimbpaaSessComeF
import Derived.Test.YtblkdmbkkimbpaaSessTick
namespace Go.Proofs.Ytblkdmbkkimbpaa
open Go.RowKit

set_option maxRecDepth 100000 in
set_option maxHeartbeats 2000000 in
theorem own_ComeE (s : Ses) (A : Option Addr) (n c : Nat) (m : Mg) (now : Int) (W : World) (hl : s.ln.held.length = n) (hn : n ≤ 100000) (h : Sl W A n c 20 (icells s.ln.held)) (hm : m.In) (hg : s.rightB = true ∧ msgB m = true ∧ tmB now = true) (hhb : heedB s m = true) (h5 : m.kind = 5 ∧ m.gap = false) :
    Calls Try.prog 9 #[.agg (sesArr s A n c), .agg m.arr, .int .i64 now] W (ComeAPost (comeS s m now) W) := by
  have HI := Lib.hid ((((RI.start W).add 29 (sesArr s A n c)).addAt 41 m.arr (W.heap.size + 1) (by simp)).addAt 29 #[.int .i64 0, .int .i64 0, .slice none 0 0, .int .i64 0, .int .i64 0, .int .i64 0, .int .i64 0, .int .i64 0, .int .i64 0, .bool false] (W.heap.size + 1 + 1) (by simp))
  have HS := Lib.hid (h.on HI.out.below)
  have HR := Lib.hid (own_Right7 s A n c _ hl HS.out)
  have HC := Lib.hid (fun (w : World) (h : Sl w A n c 20 (icells s.ln.held)) => own_copied s A n c hl hn w h)
  have HL := Lib.hid hl
  have HTm := Lib.hid (fun w : World => own_isTime7 now w)
  have HM := Lib.hid (fun w : World => (show Calls Try.prog 17 #[.agg m.arr] w (fun e w' => e = .returned (.bool (msgB m)) ∧ Below w.heap.size w w') from own_Right5 m hm w))
  clear h hl hm
  have hbad : ¬ (s.rightB && (msgB m && tmB now)) = false := by rw [hg.1, hg.2.1, hg.2.2]; decide
  have hRR := Ses.right_iff.1 hg.1
  have hmR := msgB_iff.1 hg.2.1
  have hnow : 0 ≤ now ∧ now ≤ 4611686018427387904 := by have := hg.2.2; simpa [tmB] using this
  rw [hg.1] at HR
  rw [hg.2.1] at HM
  rw [hg.2.2] at HTm
  have HHd := Lib.hid (fun V : World => own_heeds s A n c m V)
  rw [hhb] at HHd
  have hh : ¬ (s.st = 0 ∨ s.st = 1 ∧ m.kind ≠ 1) := fun h => by rw [(heed_no hRR (m := m)).2 h] at hhb; cases hhb
  clear hg hhb
  have HF := Lib.hid (show comeS s m now = ({ hearS s now with st := 0 }, [], [], true, 0) from (if_neg hbad).trans ((if_neg hh).trans (if_pos h5)))
  have h5b : (m.kind == 5) = true := by rw [beq_iff_eq]; exact h5.1
  have h5g := h5.2
  clear hbad h5 hh hRR hmR hnow
  go_enter Try.func9, Try.ntmps9
  go_upto_region 1 with (fail)
  go_upto_region 3 with (first | (refine wpList_load_row rfl 29 (.tmp 3) rfl _ rfl 29 (sesArr s A n c) (0, 0) _ HI.out.rot3.bx Try.underlying29 rfl infoS ?_) | (go_at_call 11; refine HR.out.mono ?_; rintro e w2 ⟨rfl, hb2⟩; have HI := Lib.hid (HI.out.on hb2); have HS := Lib.hid (HS.out.on hb2); clear hb2) | (go_guarded; refine box_load HI.out.swap.bx 41 (.tmp 4) rfl rfl _ Try.underlying41 rfl infoM ?_; try simp only [Act.put, List.setIfInBounds_toArray, List.set_cons_zero, List.set_cons_succ]) | (go_at_call 17; refine (HM.out _).mono ?_; rintro e w2b ⟨rfl, hb2⟩; have HI := Lib.hid (HI.out.on hb2); have HS := Lib.hid (HS.out.on hb2); clear hb2) | (go_at_call 14; refine (HTm.out _).mono ?_; rintro e w' ⟨rfl, rfl⟩))
  clear HR HM HTm
  go_upto_region 5 with (first | (refine wpList_load_row rfl 29 (.tmp 3) rfl _ rfl 29 (sesArr s A n c) (0, 0) _ HI.out.rot3.bx Try.underlying29 rfl infoS ?_) | (refine wpList_load_row rfl 41 (.tmp 4) rfl _ rfl 41 m.arr (0, 0) _ HI.out.swap.bx Try.underlying41 rfl infoM ?_) | (go_at_call 18; refine (HHd.out _).mono ?_; rintro e w3a ⟨rfl, hb3⟩; have HI := Lib.hid (HI.out.on hb3); have HS := Lib.hid (HS.out.on hb3); clear hb3))
  clear HHd
  go_upto_region 6 with (first | (refine wpList_load_row rfl 29 (.tmp 3) rfl _ rfl 29 (sesArr s A n c) (0, 0) _ HI.out.rot3.bx Try.underlying29 rfl infoS ?_) | (go_at_call 15; refine (HC.out _ HS.out).mono ?_; rintro e w3 ⟨A3, c3, rfl, hs3, hf3, hb3⟩; have HF3 := Lib.hid (Fr.le hf3 HI.out.below.size); have HI3 := Lib.hid (HI.out.on hb3); have HS3 := Lib.hid hs3; clear hs3 hb3 hf3) | (refine wpList_build_tk rfl (.tmp 36) (.tmp 37) rfl s A3 n c3 now rfl rfl ?_) | (refine ri_put rfl 49 (.tmp 11) (.tmp 38) rfl (tkArr s A3 n c3 now (.slice none 0 0)) rfl rfl ((RI.start w3).add 49 _) rfl infoTk (tk_one _ _ _ _ _) ?_; intro w4 hI4 _; have HT := Lib.hid (TI.mk0 hI4 HL.out HS3.out); clear hI4))
  clear HC HS HI
  go_upto_region 7 with (first | (refine ti_put1 rfl 3 (.tmp 41) (.const (.int .i64 2)) rfl 0 (.int .i64 2) { s with st := 2 } now (.slice none 0 0) rfl rfl rfl HT.out (by decide) (by kernel_rfl) rfl rfl ?_; intro w5 hT5 _; have HTa := Lib.hid hT5; clear hT5) | (refine ti_put1 rfl 2 (.tmp 43) (.tmp 39) rfl 5 (.int .i64 now) { s with st := 2, heard := now } now (.slice none 0 0) rfl rfl rfl HTa.out (by decide) (by kernel_rfl) rfl rfl ?_; intro w6 hT6 _; have HTb := Lib.hid hT6; clear hT6) | (refine ti_put1 rfl 4 (.tmp 45) (.const (.bool false)) rfl 9 (.bool false) (hearS s now) now (.slice none 0 0) rfl rfl rfl HTb.out (by decide) (by kernel_rfl) rfl rfl ?_; intro w7 hT7 _; have HTc := Lib.hid hT7; clear hT7))
  clear HT HTa HTb
  have HIc := Lib.hid (HI3.out.on HTc.out.below)
  have d0 := (HIc.out.swap.cell 0).trans (show _ = some (Value.int .i64 m.kind) from rfl)
  have d6 := (HIc.out.swap.cell 6).trans (show _ = some (Value.bool m.gap) from rfl)
  rw [h5g] at d6
  go_upto_region 9 with (first | (refine ti_put1 rfl 3 (.tmp 55) (.const (.int .i64 0)) rfl 0 (.int .i64 0) { hearS s now with st := 0 } now (.slice none 0 0) rfl rfl rfl HTc.out (by decide) (by kernel_rfl) rfl rfl ?_; intro w8 hT8 _; have HT8 := Lib.hid hT8; clear hT8))
  have HI8 := Lib.hid (HI3.out.on HT8.out.below)
  have hmid := tk_mid HT8.out.box
  go_wp2_with (first | (refine wpList_load_mid rfl 29 (.tmp 56) rfl w3.heap.size 0 rfl _ _ hmid Try.underlying29 rfl infoS ?_) | (refine ri_put rfl 29 (.tmp 6) (.tmp 57) rfl (sesArr { hearS s now with st := 0 } A3 n c3) rfl rfl HI8.out rfl infoS (ses_one _ _ _ _) ?_; intro w9 hI9 hf9; have HS9 := Lib.hid (HT8.out.sl.farI HI8.out.bx (Nat.le_refl 10) hf9); have HI9 := Lib.hid hI9; clear hI9 hf9))
  refine bodyPost_ret (results_cell_tmp4 Try.results9 _ _ _ _ _ (0, 0) _ rfl HI9.out.bx Try.underlying29 rfl infoS) rfl ?_
  unfold ComeAPost
  rw [HF.out]
  exact ⟨A3, n, c3, none, 0, 0, none, 0, 0, HF3.out, rfl, HT8.out.hn, rfl, rfl, HS9.out, Sl.none_ _ _, Sl.none_ _ _, HI9.out.below⟩
set_option maxRecDepth 100000 in
set_option maxHeartbeats 2000000 in
theorem own_Come7 (s : Ses) (A : Option Addr) (n c : Nat) (m : Mg) (now : Int) (W : World) (hl : s.ln.held.length = n) (hn : n ≤ 100000) (h : Sl W A n c 20 (icells s.ln.held)) (hm : m.In) :
    Calls Try.prog 9 #[.agg (sesArr s A n c), .agg m.arr, .int .i64 now] W (ComeAPost (comeS s m now) W) := by
  have HI := Lib.hid ((((RI.start W).add 29 (sesArr s A n c)).addAt 41 m.arr (W.heap.size + 1) (by simp)).addAt 29 #[.int .i64 0, .int .i64 0, .slice none 0 0, .int .i64 0, .int .i64 0, .int .i64 0, .int .i64 0, .int .i64 0, .int .i64 0, .bool false] (W.heap.size + 1 + 1) (by simp))
  have HS := Lib.hid (h.on HI.out.below)
  have HR := Lib.hid (own_Right7 s A n c _ hl HS.out)
  have HC := Lib.hid (fun (w : World) (h : Sl w A n c 20 (icells s.ln.held)) => own_copied s A n c hl hn w h)
  have HL := Lib.hid hl
  have HTm := Lib.hid (fun w : World => own_isTime7 now w)
  have HM := Lib.hid (fun w : World => (show Calls Try.prog 17 #[.agg m.arr] w (fun e w' => e = .returned (.bool (msgB m)) ∧ Below w.heap.size w w') from own_Right5 m hm w))
  have HA := Lib.hid (And.intro hl (And.intro h hm))
  clear h hl hm
  by_cases hbad : (s.rightB && (msgB m && tmB now)) = false
  · have HF := Lib.hid (show comeS s m now = (s, [], [], false, 1) from if_pos hbad)
    rcases hr : s.rightB with _ | _
    · rw [hr] at HR
      clear hr
      clear hbad
      go_enter Try.func9, Try.ntmps9
      go_upto_region 1 with (fail)
      go_upto_region 2 with (first | (refine wpList_load_row rfl 29 (.tmp 3) rfl _ rfl 29 (sesArr s A n c) (0, 0) _ HI.out.rot3.bx Try.underlying29 rfl infoS ?_) | (go_at_call 11; refine HR.out.mono ?_; rintro e w2 ⟨rfl, hb2⟩; have HI := Lib.hid (HI.out.on hb2); have HS := Lib.hid (HS.out.on hb2); clear hb2) | (go_guarded; refine box_load HI.out.swap.bx 41 (.tmp 4) rfl rfl _ Try.underlying41 rfl infoM ?_; try simp only [Act.put, List.setIfInBounds_toArray, List.set_cons_zero, List.set_cons_succ]) | (go_at_call 17; refine (HM.out _).mono ?_; rintro e w2b ⟨rfl, hb2⟩; have HI := Lib.hid (HI.out.on hb2); have HS := Lib.hid (HS.out.on hb2); clear hb2) | (go_at_call 14; refine (HTm.out _).mono ?_; rintro e w' ⟨rfl, rfl⟩))
      go_wp2_with (first | (refine wpList_load_row rfl 29 (.tmp 3) rfl _ rfl 29 (sesArr s A n c) (0, 0) _ HI.out.rot3.bx Try.underlying29 rfl infoS ?_) | (go_at_call 15; refine (HC.out _ HS.out).mono ?_; rintro e w3 ⟨A3, c3, rfl, hs3, hf3, hb3⟩; have HF3 := Lib.hid (And.intro hf3 HI.out.below.size); have HI := Lib.hid (HI.out.on hb3); have HS3 := Lib.hid hs3; clear hs3 hb3 hf3) | (refine ri_put rfl 29 (.tmp 6) (.tmp 28) rfl (sesArr s A3 n c3) rfl rfl HI.out rfl infoS (ses_one _ _ _ _) ?_; intro w4 hI4 hf4; have HS4 := Lib.hid (HS3.out.farI HI.out.bx (Nat.le_refl 10) hf4); have HI4 := Lib.hid hI4; clear hI4 hf4))
      refine bodyPost_ret (results_cell_tmp4 Try.results9 _ _ _ _ _ (0, 0) _ rfl HI4.out.bx Try.underlying29 rfl infoS) rfl ?_
      unfold ComeAPost
      rw [HF.out]
      exact ⟨A3, n, c3, none, 0, 0, none, 0, 0, HF3.out.1.le HF3.out.2, rfl, HL.out, rfl, rfl, HS4.out, Sl.none_ _ _, Sl.none_ _ _, HI4.out.below⟩
    · rw [hr] at HR
      rcases hmb : msgB m with _ | _
      · rw [hmb] at HM
        clear hr hmb
        clear hbad
        go_enter Try.func9, Try.ntmps9
        go_upto_region 1 with (fail)
        go_upto_region 2 with (first | (refine wpList_load_row rfl 29 (.tmp 3) rfl _ rfl 29 (sesArr s A n c) (0, 0) _ HI.out.rot3.bx Try.underlying29 rfl infoS ?_) | (go_at_call 11; refine HR.out.mono ?_; rintro e w2 ⟨rfl, hb2⟩; have HI := Lib.hid (HI.out.on hb2); have HS := Lib.hid (HS.out.on hb2); clear hb2) | (go_guarded; refine box_load HI.out.swap.bx 41 (.tmp 4) rfl rfl _ Try.underlying41 rfl infoM ?_; try simp only [Act.put, List.setIfInBounds_toArray, List.set_cons_zero, List.set_cons_succ]) | (go_at_call 17; refine (HM.out _).mono ?_; rintro e w2b ⟨rfl, hb2⟩; have HI := Lib.hid (HI.out.on hb2); have HS := Lib.hid (HS.out.on hb2); clear hb2) | (go_at_call 14; refine (HTm.out _).mono ?_; rintro e w' ⟨rfl, rfl⟩))
        go_wp2_with (first | (refine wpList_load_row rfl 29 (.tmp 3) rfl _ rfl 29 (sesArr s A n c) (0, 0) _ HI.out.rot3.bx Try.underlying29 rfl infoS ?_) | (go_at_call 15; refine (HC.out _ HS.out).mono ?_; rintro e w3 ⟨A3, c3, rfl, hs3, hf3, hb3⟩; have HF3 := Lib.hid (And.intro hf3 HI.out.below.size); have HI := Lib.hid (HI.out.on hb3); have HS3 := Lib.hid hs3; clear hs3 hb3 hf3) | (refine ri_put rfl 29 (.tmp 6) (.tmp 28) rfl (sesArr s A3 n c3) rfl rfl HI.out rfl infoS (ses_one _ _ _ _) ?_; intro w4 hI4 hf4; have HS4 := Lib.hid (HS3.out.farI HI.out.bx (Nat.le_refl 10) hf4); have HI4 := Lib.hid hI4; clear hI4 hf4))
        refine bodyPost_ret (results_cell_tmp4 Try.results9 _ _ _ _ _ (0, 0) _ rfl HI4.out.bx Try.underlying29 rfl infoS) rfl ?_
        unfold ComeAPost
        rw [HF.out]
        exact ⟨A3, n, c3, none, 0, 0, none, 0, 0, HF3.out.1.le HF3.out.2, rfl, HL.out, rfl, rfl, HS4.out, Sl.none_ _ _, Sl.none_ _ _, HI4.out.below⟩
      · rw [hmb] at HM
        rw [show tmB now = false from by rw [hr, hmb] at hbad; simpa using hbad] at HTm
        clear hr hmb
        clear hbad
        go_enter Try.func9, Try.ntmps9
        go_upto_region 1 with (fail)
        go_upto_region 2 with (first | (refine wpList_load_row rfl 29 (.tmp 3) rfl _ rfl 29 (sesArr s A n c) (0, 0) _ HI.out.rot3.bx Try.underlying29 rfl infoS ?_) | (go_at_call 11; refine HR.out.mono ?_; rintro e w2 ⟨rfl, hb2⟩; have HI := Lib.hid (HI.out.on hb2); have HS := Lib.hid (HS.out.on hb2); clear hb2) | (go_guarded; refine box_load HI.out.swap.bx 41 (.tmp 4) rfl rfl _ Try.underlying41 rfl infoM ?_; try simp only [Act.put, List.setIfInBounds_toArray, List.set_cons_zero, List.set_cons_succ]) | (go_at_call 17; refine (HM.out _).mono ?_; rintro e w2b ⟨rfl, hb2⟩; have HI := Lib.hid (HI.out.on hb2); have HS := Lib.hid (HS.out.on hb2); clear hb2) | (go_at_call 14; refine (HTm.out _).mono ?_; rintro e w' ⟨rfl, rfl⟩))
        go_wp2_with (first | (refine wpList_load_row rfl 29 (.tmp 3) rfl _ rfl 29 (sesArr s A n c) (0, 0) _ HI.out.rot3.bx Try.underlying29 rfl infoS ?_) | (go_at_call 15; refine (HC.out _ HS.out).mono ?_; rintro e w3 ⟨A3, c3, rfl, hs3, hf3, hb3⟩; have HF3 := Lib.hid (And.intro hf3 HI.out.below.size); have HI := Lib.hid (HI.out.on hb3); have HS3 := Lib.hid hs3; clear hs3 hb3 hf3) | (refine ri_put rfl 29 (.tmp 6) (.tmp 28) rfl (sesArr s A3 n c3) rfl rfl HI.out rfl infoS (ses_one _ _ _ _) ?_; intro w4 hI4 hf4; have HS4 := Lib.hid (HS3.out.farI HI.out.bx (Nat.le_refl 10) hf4); have HI4 := Lib.hid hI4; clear hI4 hf4))
        refine bodyPost_ret (results_cell_tmp4 Try.results9 _ _ _ _ _ (0, 0) _ rfl HI4.out.bx Try.underlying29 rfl infoS) rfl ?_
        unfold ComeAPost
        rw [HF.out]
        exact ⟨A3, n, c3, none, 0, 0, none, 0, 0, HF3.out.1.le HF3.out.2, rfl, HL.out, rfl, rfl, HS4.out, Sl.none_ _ _, Sl.none_ _ _, HI4.out.below⟩
  · have hg : s.rightB = true ∧ msgB m = true ∧ tmB now = true := by
      have h : (s.rightB && (msgB m && tmB now)) = true := by cases h : (s.rightB && (msgB m && tmB now)) <;> simp_all
      simpa using h
    have hRR := Ses.right_iff.1 hg.1
    have hmR := msgB_iff.1 hg.2.1
    have hnow : 0 ≤ now ∧ now ≤ 4611686018427387904 := by have := hg.2.2; simpa [tmB] using this
    rw [hg.1] at HR
    rw [hg.2.1] at HM
    rw [hg.2.2] at HTm
    have HHd := Lib.hid (fun V : World => own_heeds s A n c m V)
    have hhn := heed_no hRR (m := m)
    rcases hhb : heedB s m with _ | _
    · rw [hhb] at HHd
      have HF := Lib.hid (show comeS s m now = (zSes, [], [], false, 8) from (if_neg hbad).trans (if_pos (hhn.1 hhb)))
      clear hbad hg hhn hhb HC
      go_enter Try.func9, Try.ntmps9
      go_upto_region 1 with (fail)
      go_upto_region 3 with (first | (refine wpList_load_row rfl 29 (.tmp 3) rfl _ rfl 29 (sesArr s A n c) (0, 0) _ HI.out.rot3.bx Try.underlying29 rfl infoS ?_) | (go_at_call 11; refine HR.out.mono ?_; rintro e w2 ⟨rfl, hb2⟩; have HI := Lib.hid (HI.out.on hb2); have HS := Lib.hid (HS.out.on hb2); clear hb2) | (go_guarded; refine box_load HI.out.swap.bx 41 (.tmp 4) rfl rfl _ Try.underlying41 rfl infoM ?_; try simp only [Act.put, List.setIfInBounds_toArray, List.set_cons_zero, List.set_cons_succ]) | (go_at_call 17; refine (HM.out _).mono ?_; rintro e w2b ⟨rfl, hb2⟩; have HI := Lib.hid (HI.out.on hb2); have HS := Lib.hid (HS.out.on hb2); clear hb2) | (go_at_call 14; refine (HTm.out _).mono ?_; rintro e w' ⟨rfl, rfl⟩))
      clear HR HM HTm
      go_wp2_with (first | (refine wpList_load_row rfl 29 (.tmp 3) rfl _ rfl 29 (sesArr s A n c) (0, 0) _ HI.out.rot3.bx Try.underlying29 rfl infoS ?_) | (refine wpList_load_row rfl 41 (.tmp 4) rfl _ rfl 41 m.arr (0, 0) _ HI.out.swap.bx Try.underlying41 rfl infoM ?_) | (go_at_call 18; refine (HHd.out _).mono ?_; rintro e w3 ⟨rfl, hb3⟩; have HI := Lib.hid (HI.out.on hb3); clear hb3) | (refine ri_put rfl 29 (.tmp 6) (.tmp 34) rfl (sesArr zSes none 0 0) rfl rfl HI.out rfl infoS (ses_one _ _ _ _) ?_; intro w4 hI4 hf4; have HI4 := Lib.hid hI4; clear hI4 hf4))
      refine bodyPost_ret (results_cell_tmp4 Try.results9 _ _ _ _ _ (0, 0) _ rfl HI4.out.bx Try.underlying29 rfl infoS) rfl ?_
      unfold ComeAPost
      rw [HF.out]
      exact ⟨none, 0, 0, none, 0, 0, none, 0, 0, fun _ e => (by cases e), rfl, rfl, rfl, rfl, Sl.none_ _ _, Sl.none_ _ _, Sl.none_ _ _, HI4.out.below⟩
    · rw [hhb] at HHd
      by_cases h5 : m.kind = 5 ∧ m.gap = false
      · exact own_ComeE s A n c m now W HA.out.1 hn HA.out.2.1 HA.out.2.2 hg hhb h5
      · exact own_ComeF s A n c m now W HA.out.1 hn HA.out.2.1 HA.out.2.2 hg hhb h5
/-- The contracts of layer 7's calls. -/
theorem sessC : SessC where
  new := fun every V h1 h2 => own_New7 every V h1 h2
  right := fun s A n c V hl h => own_Right7 s A n c V hl h
  connect := fun s A n c now V hl hn h => own_Connect7 s A n c now V hl hn h
  comeA := fun s A n c m now V hl hn h hm => own_Come7 s A n c m now V hl hn h hm
  tick := fun s A n c now V hl hn h => own_Tick7 s A n c now V hl hn h
  drop := fun s A n c V hl hn h => own_Drop7 s A n c V hl hn h
end Go.Proofs.Ytblkdmbkkimbpaa
