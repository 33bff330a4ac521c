/-
  Layer 7: the program's own way: Connect: its contract.
-/
import Derived.Test.YtblkdmbkkimbpaaSessTop
namespace Go.Proofs.Ytblkdmbkkimbpaa
open Go.RowKit

theorem tk_one (s : Ses) (A : Option Addr) (n c : Nat) (now : Int) : (tkArr s A n c now (.slice none 0 0)).all (·.oneCell') = true := by unfold tkArr; simp [Value.oneCell']
theorem tk_mid {V : World} {g : Nat} {s : Ses} {A : Option Addr} {n c : Nat} {now : Int} {u : Value} (h : Box V g 49 (tkArr s A n c now u)) : V.rangeAt g 0 [.int .i64 s.st, .int .i64 s.ln.next, .slice A n c, .int .i64 s.out, .int .i64 s.every, .int .i64 s.heard, .int .i64 s.said, .int .i64 s.asked, .int .i64 s.at_, .bool s.tested] := fun j z hz => by
  rw [h.cell, Nat.zero_add]
  have hj : j < 10 := (List.getElem?_eq_some_iff.1 hz).1
  rw [← hz]
  rcases (show j = 0 ∨ j = 1 ∨ j = 2 ∨ j = 3 ∨ j = 4 ∨ j = 5 ∨ j = 6 ∨ j = 7 ∨ j = 8 ∨ j = 9 by omega) with rfl | rfl | rfl | rfl | rfl | rfl | rfl | rfl | rfl | rfl <;> rfl
theorem TI.mk0 {W1 V : World} {s : Ses} {A : Option Addr} {n c : Nat} {now : Int} (hI : RI W1 [(W1.heap.size, 49, tkArr s A n c now (.slice none 0 0))] V) (hn : s.ln.held.length = n) (hs : Sl W1 A n c 20 (icells s.ln.held)) : TI W1 W1.heap.size s A n c now (.slice none 0 0) (.slice none 0 0) [] V := by
  refine ⟨⟨hI, ⟨rfl, .inl ⟨rfl, rfl⟩⟩, fun b hb => ?_⟩, hn, hs.on hI.below, ?_⟩
  · rw [List.mem_singleton] at hb; subst hb; show (49 : Nat) ≠ 41; decide
  · cases hl : s.ln.held with
    | nil => exact .inl rfl
    | cons y r =>
      right
      intro a e
      obtain ⟨b, off, e2, hr2, -, -⟩ := hs.row.itm (k := 0) (by rw [hl]; simp)
      rw [e] at e2
      injection e2 with e2
      subst e2
      have := cell_lt (hr2 0 _ (by rw [show (s.ln.held[0]'(by rw [hl]; simp)).cells = _ from rfl]; rfl))
      exact ⟨by show b ≠ _; omega, fun h => by cases h⟩
/-- The talk's session is answered, and what it says. -/
def TalkR (W : World) (gr : Nat) (bs : List (Nat × TypeId × Array Value)) (r : Ses × List Mg) (A : Option Addr) (n c : Nat) (V : World) (u : Value) : Prop :=
  ∃ B m d, u = .slice B m d ∧ r.2.length = m ∧ RI W ((gr, 29, sesArr r.1 A n c) :: bs) V ∧ r.1.ln.held.length = n ∧ Sl V A n c 20 (icells r.1.ln.held) ∧ Sl V B m d 18 (mcells r.2)
set_option maxRecDepth 100000 in
set_option maxHeartbeats 2000000 in
theorem own_Connect7 (s : Ses) (A : Option Addr) (n c : Nat) (now : Int) (W : World) (hl : s.ln.held.length = n) (hn : n ≤ 100000) (h : Sl W A n c 20 (icells s.ln.held)) :
    Calls Try.prog 8 #[.agg (sesArr s A n c), .int .i64 now] W (SayPost (connectS s now) W) := by
  have HI := Lib.hid (((RI.start W).add 29 (sesArr s A n c)).addAt 29 #[.int .i64 0, .int .i64 0, .slice none 0 0, .int .i64 0, .int .i64 0, .int .i64 0, .int .i64 0, .int .i64 0, .int .i64 0, .bool false] (W.heap.size + 1) (by simp)).swap
  have HS := Lib.hid (h.on HI.out.below)
  have HR := Lib.hid (own_Right7 s A n c _ hl HS.out)
  have HC := Lib.hid (fun (w : World) (h : Sl w A n c 20 (icells s.ln.held)) => own_copied s A n c hl hn w h)
  have HL := Lib.hid hl
  clear h hl
  rcases hr : s.rightB with _ | _
  · rw [hr] at HR
    have HF := Lib.hid (show connectS s now = (s, [], 1) from if_pos (by rw [hr]; rfl))
    clear hr
    go_enter Try.func8, Try.ntmps8
    go_upto_region 1 with (fail)
    go_wp2_with (first | (refine wpList_load_row rfl 29 (.tmp 2) rfl _ rfl 29 (sesArr s A n c) (0, 0) _ HI.out.bx Try.underlying29 rfl infoS ?_) | (go_at_call 11; refine HR.out.mono ?_; rintro e w2 ⟨rfl, hb2⟩; have HI := Lib.hid (HI.out.on hb2); have HS := Lib.hid (HS.out.on hb2); clear hb2) | (go_at_call 15; refine (HC.out _ HS.out).mono ?_; rintro e w3 ⟨A3, c3, rfl, hs3, -, hb3⟩; have HI := Lib.hid (HI.out.on hb3).swap; have HS3 := Lib.hid hs3; clear hs3 hb3) | (refine ri_put rfl 29 (.tmp 4) (.tmp 18) rfl (sesArr s A3 n c3) rfl rfl HI.out rfl infoS (ses_one _ _ _ _) ?_; intro w4 hI4 hf4; have HS4 := Lib.hid (HS3.out.farI HI.out.bx (Nat.le_refl 10) hf4); have HI4 := Lib.hid hI4; clear hI4 hf4))
    refine bodyPost_ret (results_cell_tmp2 Try.results8 _ _ _ _ _ (0, 0) _ rfl HI4.out.bx Try.underlying29 rfl infoS) rfl ?_
    unfold SayPost
    rw [HF.out]
    exact ⟨A3, n, c3, none, 0, 0, rfl, HL.out, rfl, HS4.out, Sl.none_ _ _, HI4.out.below⟩
  · rw [hr] at HR
    have HTm := Lib.hid (fun w : World => own_isTime7 now w)
    rcases ht : tmB now with _ | _
    · have HF := Lib.hid (show connectS s now = (s, [], 1) from if_pos (by rw [hr, ht]; rfl))
      rw [ht] at HTm
      clear hr ht
      go_enter Try.func8, Try.ntmps8
      go_upto_region 1 with (fail)
      go_wp2_with (first | (refine wpList_load_row rfl 29 (.tmp 2) rfl _ rfl 29 (sesArr s A n c) (0, 0) _ HI.out.bx Try.underlying29 rfl infoS ?_) | (go_at_call 11; refine HR.out.mono ?_; rintro e w2 ⟨rfl, hb2⟩; have HI := Lib.hid (HI.out.on hb2); have HS := Lib.hid (HS.out.on hb2); clear hb2) | (go_at_call 14; refine (HTm.out _).mono ?_; rintro e w' ⟨rfl, rfl⟩) | (go_at_call 15; refine (HC.out _ HS.out).mono ?_; rintro e w3 ⟨A3, c3, rfl, hs3, -, hb3⟩; have HI := Lib.hid (HI.out.on hb3).swap; have HS3 := Lib.hid hs3; clear hs3 hb3) | (refine ri_put rfl 29 (.tmp 4) (.tmp 18) rfl (sesArr s A3 n c3) rfl rfl HI.out rfl infoS (ses_one _ _ _ _) ?_; intro w4 hI4 hf4; have HS4 := Lib.hid (HS3.out.farI HI.out.bx (Nat.le_refl 10) hf4); have HI4 := Lib.hid hI4; clear hI4 hf4))
      refine bodyPost_ret (results_cell_tmp2 Try.results8 _ _ _ _ _ (0, 0) _ rfl HI4.out.bx Try.underlying29 rfl infoS) rfl ?_
      unfold SayPost
      rw [HF.out]
      exact ⟨A3, n, c3, none, 0, 0, rfl, HL.out, rfl, HS4.out, Sl.none_ _ _, HI4.out.below⟩
    · rw [ht] at HTm
      by_cases h0 : s.st = 0
      · have HF := Lib.hid (show connectS s now = ((sayS { s with st := 1, heard := now, asked := 0, tested := false } (logonM s.every) now).1, (sayS { s with st := 1, heard := now, asked := 0, tested := false } (logonM s.every) now).2, 0) from (if_neg (by rw [hr, ht]; decide)).trans (if_neg (by rw [h0]; decide)))
        have ho := (Ses.right_iff.1 hr).out
        have f0 := (HI.out.cell 0).trans (show _ = some (Value.int .i64 0) from by rw [← h0]; rfl)
        clear hr ht
        go_enter Try.func8, Try.ntmps8
        go_upto_region 1 with (fail)
        go_upto_region 3 with (first | (refine wpList_load_row rfl 29 (.tmp 2) rfl _ rfl 29 (sesArr s A n c) (0, 0) _ HI.out.bx Try.underlying29 rfl infoS ?_) | (go_at_call 11; refine HR.out.mono ?_; rintro e w2 ⟨rfl, hb2⟩; have HI := Lib.hid (HI.out.on hb2); have HS := Lib.hid (HS.out.on hb2); have f0 := (HI.out.cell 0).trans (show _ = some (Value.int .i64 0) from by rw [← h0]; rfl); clear hb2) | (go_at_call 14; refine (HTm.out _).mono ?_; rintro e w' ⟨rfl, rfl⟩))
        go_upto_region 6 with (first | (refine wpList_load_row rfl 29 (.tmp 2) rfl _ rfl 29 (sesArr s A n c) (0, 0) _ HI.out.bx Try.underlying29 rfl infoS ?_) | (go_at_call 15; refine (HC.out _ HS.out).mono ?_; rintro e w3 ⟨A3, c3, rfl, hs3, -, hb3⟩; have HI3 := Lib.hid (HI.out.on hb3).swap; have HS3 := Lib.hid hs3; clear hs3 hb3) | (refine wpList_build_tk rfl (.tmp 25) (.tmp 26) rfl s A3 n c3 now rfl rfl ?_) | (refine ri_put rfl 49 (.tmp 7) (.tmp 27) rfl (tkArr s A3 n c3 now (.slice none 0 0)) rfl rfl ((RI.start w3).add 49 _) rfl infoTk (tk_one _ _ _ _ _) ?_; intro w4 hI4 _; have HT := Lib.hid (TI.mk0 hI4 HL.out HS3.out); clear hI4))
        clear HR HC HTm HS f0 HI
        go_upto_region 7 with (first | (refine ti_put1 rfl 3 (.tmp 30) (.const (.int .i64 1)) rfl 0 (.int .i64 1) { s with st := 1 } now (.slice none 0 0) rfl rfl rfl HT.out (by decide) (by kernel_rfl) rfl rfl ?_; intro w5 hT5 _; have HTa := Lib.hid hT5; clear hT5) | (refine ti_put1 rfl 2 (.tmp 32) (.tmp 28) rfl 5 (.int .i64 now) { s with st := 1, heard := now } now (.slice none 0 0) rfl rfl rfl HTa.out (by decide) (by kernel_rfl) rfl rfl ?_; intro w6 hT6 _; have HTb := Lib.hid hT6; clear hT6))
        clear HT HTa
        go_upto_region 8 with (first | (refine ti_put1 rfl 2 (.tmp 34) (.const (.int .i64 0)) rfl 7 (.int .i64 0) { s with st := 1, heard := now, asked := 0 } now (.slice none 0 0) rfl rfl rfl HTb.out (by decide) (by kernel_rfl) rfl rfl ?_; intro w7 hT7 _; have HTc := Lib.hid hT7; clear hT7) | (refine ti_put1 rfl 4 (.tmp 36) (.const (.bool false)) rfl 9 (.bool false) { s with st := 1, heard := now, asked := 0, tested := false } now (.slice none 0 0) rfl rfl rfl HTc.out (by decide) (by kernel_rfl) rfl rfl ?_; intro w8 hT8 _; have HTd := Lib.hid hT8; clear hT8))
        clear HTb HTc
        have f4 := ((HI3.out.swap.on HTd.out.below).cell 4).trans (show _ = some (Value.int .i64 s.every) from rfl)
        have HQ := Lib.hid (show (sayS { s with st := 1, heard := now, asked := 0, tested := false } (logonM s.every) now).1.ln = s.ln from (sayS_len _ _ _).2.2.2)
        go_upto_region 9 with (first | (go_at_call 16; refine (own_say _ _ _ _ _ _ _ _ _ _ (logonM s.every) HTd.out (Nat.zero_le _) ho).mono ?_; rintro e w9 ⟨⟨x9, rfl⟩, v9, hT9, -⟩; rw [List.nil_append] at hT9; have HT9 := Lib.hid hT9; have HI9 := Lib.hid (HI3.out.swap.on hT9.below); clear hT9))
        clear HTd f4
        generalize sayS { s with st := 1, heard := now, asked := 0, tested := false } (logonM s.every) now = q at *
        obtain ⟨B9, d9, rfl, hsB, -⟩ := Sl.of_own HT9.out.mj.own
        have hTd := HT9.out.on (Below.refl _ _).drew
        have hId := (HI9.out.on (Below.refl _ _).drew).swap
        refine wp_region_held_drew (S := fun V => Box V w3.heap.size 49 (tkArr q.1 A3 n c3 now (.slice B9 q.2.length d9))) (by kernel_rfl) hTd.box (fun hHeld => ?_)
        refine wpAnyH_take (i := 0) (v := .pointer (some ⟨w3.heap.size, 0, none⟩)) (at_place rfl) (by kernel_rfl) (by kernel_rfl) (by kernel_rfl) (fun _ _ _ h => h) (Or.inl ⟨by rfl, fun V hV => by go_simp⟩) hHeld ?_; try simp only [Act.put, List.setIfInBounds_toArray, List.set_cons_zero, List.set_cons_succ]
        refine wpAnyH_take (i := 1) (v := .agg (sesArr q.1 A3 n c3)) (at_place rfl) (by kernel_rfl) (by kernel_rfl) (by kernel_rfl) (fun _ _ _ h => h) (y_mid _ rfl (fun V hV => tk_mid hV) 29 _ rfl rfl _ Try.underlying29 rfl infoS) hHeld ?_; try simp only [Act.put, List.setIfInBounds_toArray, List.set_cons_zero, List.set_cons_succ]
        refine wpAnyH_take (i := 2) (v := .pointer (some ⟨w3.heap.size, 11, none⟩)) (at_place rfl) (by kernel_rfl) (by kernel_rfl) (by kernel_rfl) (fun _ _ _ h => h) (Or.inl ⟨by rfl, fun V hV => by go_simp⟩) hHeld ?_; try simp only [Act.put, List.setIfInBounds_toArray, List.set_cons_zero, List.set_cons_succ]
        refine wpAnyH_take (i := 3) (v := .slice B9 q.2.length d9) (at_place rfl) (by kernel_rfl) (by kernel_rfl) (by kernel_rfl) (fun _ _ _ h => h) (Or.inl ⟨by rfl, fun V hV => by have c11 := (hV.cell 11).trans (show _ = some (Value.slice B9 q.2.length d9) from rfl); go_simp⟩) hHeld ?_; try simp only [Act.put, List.setIfInBounds_toArray, List.set_cons_zero, List.set_cons_succ]
        refine wpAnyH_ready (rs := [4]) (by kernel_rfl) (by simp) ?_
        refine AllReadyH.cons (at_place rfl) (fun K hK => ?_) AllReadyH.nil
        refine step_put rfl 29 (.tmp 4) _ rfl (sesArr q.1 A3 n c3) rfl rfl hId rfl infoS (ses_one _ _ _ _) ?_
        intro w5 hI5 hf5
        have hne : w3.heap.size ≠ W.heap.size + 1 := by have := HI3.out.bx.lt; omega
        refine hK.out _ _ ((show w5.heap[w3.heap.size]? = _ from hf5 _ hne).trans hTd.box) (fun hHeld => ?_)
        clear hK K
        try simp only [Act.put]
        refine wpAnyH_take (i := 5) (v := .slice B9 q.2.length d9) (at_place rfl) (by kernel_rfl) (by kernel_rfl) (by kernel_rfl) (fun _ _ _ h => h) (Or.inl ⟨by rfl, fun V hV => by go_simp⟩) hHeld ?_; try simp only [Act.put, List.setIfInBounds_toArray, List.set_cons_zero, List.set_cons_succ]
        refine wpAnyH_take (i := 6) (v := .int .i64 0) (at_place rfl) (by kernel_rfl) (by kernel_rfl) (by kernel_rfl) (fun _ _ _ h => h) (Or.inl ⟨by rfl, fun V hV => by go_simp⟩) hHeld ?_; try simp only [Act.put, List.setIfInBounds_toArray, List.set_cons_zero, List.set_cons_succ]
        refine wpAnyH_done (by kernel_rfl) ?_ _
        go_wp2_with fail
        refine bodyPost_ret (results_cell_tmp2 Try.results8 _ _ _ _ _ (0, 0) _ rfl hI5.bx Try.underlying29 rfl infoS) rfl ?_
        unfold SayPost
        rw [HF.out]
        exact ⟨A3, n, c3, B9, _, d9, rfl, hTd.hn, rfl, hTd.sl.farI hId.bx (Nat.le_refl 10) hf5, (hsB.on (Below.refl _ _).drew).farM hId.bx (Nat.le_refl 10) hf5, hI5.below⟩
      · have HF := Lib.hid (show connectS s now = (zSes, [], 8) from (if_neg (by rw [hr, ht]; decide)).trans (if_pos h0))
        have h0b : (s.st != 0) = true := by rw [bne_iff_ne]; exact h0
        clear hr ht h0 HC
        go_enter Try.func8, Try.ntmps8
        go_upto_region 1 with (fail)
        go_wp2_with (first | (refine wpList_load_row rfl 29 (.tmp 2) rfl _ rfl 29 (sesArr s A n c) (0, 0) _ HI.out.bx Try.underlying29 rfl infoS ?_) | (go_at_call 11; refine HR.out.mono ?_; rintro e w2 ⟨rfl, hb2⟩; have HI := Lib.hid (HI.out.on hb2); have f0 := (HI.out.cell 0).trans (show _ = some (Value.int .i64 s.st) from rfl); clear hb2) | (go_at_call 14; refine (HTm.out _).mono ?_; rintro e w' ⟨rfl, rfl⟩) | (refine ri_put rfl 29 (.tmp 4) (.tmp 23) rfl (sesArr zSes none 0 0) rfl rfl HI.out.swap rfl infoS (ses_one _ _ _ _) ?_; intro w4 hI4 hf4; have HI4 := Lib.hid hI4; clear hI4 hf4))
        refine bodyPost_ret (results_cell_tmp2 Try.results8 _ _ _ _ _ (0, 0) _ rfl HI4.out.bx Try.underlying29 rfl infoS) rfl ?_
        unfold SayPost
        rw [HF.out]
        exact ⟨none, 0, 0, none, 0, 0, rfl, rfl, rfl, Sl.none_ _ _, Sl.none_ _ _, HI4.out.below⟩
end Go.Proofs.Ytblkdmbkkimbpaa
