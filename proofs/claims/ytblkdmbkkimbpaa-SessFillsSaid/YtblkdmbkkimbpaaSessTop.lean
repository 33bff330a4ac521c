/-
  Layer 7: the program's own way: heeds, New, Drop, Connect: its contracts.
-/
import Derived.Test.YtblkdmbkkimbpaaSessRight
import Derived.Test.YtblkdmbkkimbpaaSessWait
namespace Go.Proofs.Ytblkdmbkkimbpaa
open Go.RowKit

def heedB (s : Ses) (m : Mg) : Bool := decide (s.st = 2) || (decide (s.st = 1) && decide (m.kind = 1))
set_option maxRecDepth 100000 in
set_option maxHeartbeats 1000000 in
theorem own_heeds (s : Ses) (A : Option Addr) (n c : Nat) (m : Mg) (V : World) :
    Calls Try.prog 18 #[.agg (sesArr s A n c), .agg m.arr] V fun e w' => e = .returned (.bool (heedB s m)) ∧ Below V.heap.size V w' := by
  have HB := Lib.hid (show heedB s m = (decide (s.st = 2) || (decide (s.st = 1) && decide (m.kind = 1))) from rfl)
  have HI := Lib.hid ((((RI.start V).add 29 (sesArr s A n c)).addAt 41 m.arr (V.heap.size + 1) (by simp)))
  have c0 := (HI.out.swap.cell 0).trans (show _ = some (Value.int .i64 s.st) from rfl)
  have d0 := (HI.out.cell 0).trans (show _ = some (Value.int .i64 m.kind) from rfl)
  by_cases h2 : s.st = 2
  · rw [h2] at c0 HB
    go_enter Try.func18, Try.ntmps18
    go_wp2
    go_ret
    exact ⟨retB (by rw [HB.out]; rfl), HI.out.below⟩
  · have h2b : (s.st == 2) = false := by rw [beq_eq_false_iff_ne]; exact h2
    by_cases h1 : s.st = 1
    · rw [h1] at c0 HB
      have HB2 := Lib.hid (show heedB s m = (m.kind == 1) from by rw [HB.out]; by_cases h : m.kind = 1 <;> simp [h])
      clear HB
      go_enter Try.func18, Try.ntmps18
      go_wp2
      go_ret
      exact ⟨retB (by rw [HB2.out]), HI.out.below⟩
    · have h1b : (s.st == 1) = false := by rw [beq_eq_false_iff_ne]; exact h1
      have HB2 := Lib.hid (show heedB s m = false from by rw [HB.out]; simp [h1, h2])
      clear HB h1 h2
      go_enter Try.func18, Try.ntmps18
      go_wp2
      go_ret
      exact ⟨retB (by rw [HB2.out]), HI.out.below⟩
set_option maxRecDepth 100000 in
set_option maxHeartbeats 1000000 in
theorem own_New7 (every : Int) (V : World) (h1 : 1 ≤ every) (h2 : every ≤ 1048576) :
    Calls Try.prog 7 #[.int .i64 every] V fun e w' => e = .returned (.tuple #[.agg (sesArr (newS every) none 0 0), .int .i64 0]) ∧ Below V.heap.size V w' := by
  have HE := Lib.hid (fun w : World => (show Calls Try.prog 13 #[.int .i64 every] w (fun e w' => e = .returned (.bool true) ∧ w = w') from by
    have h := own_every7 every w
    rw [show evB every = true from decide_eq_true ⟨h1, h2⟩] at h
    exact h))
  clear h1 h2
  go_enter Try.func7, Try.ntmps7
  go_wp2_with (first | (go_at_call 13; refine (HE.out _).mono ?_; rintro e w' ⟨rfl, rfl⟩) | (refine ri_put rfl 29 (.tmp 2) (.tmp 10) rfl (sesArr (newS every) none 0 0) rfl rfl ((RI.start V).add 29 _) rfl infoS (ses_one _ _ _ _) ?_; intro w2 hI2 _; have HI := Lib.hid hI2; clear hI2))
  refine bodyPost_ret (results_cell_tmp Try.results7 _ _ _ _ _ (0, 0) _ rfl HI.out.bx Try.underlying29 rfl infoS) rfl ?_
  exact ⟨rfl, HI.out.below⟩
set_option maxRecDepth 100000 in
set_option maxHeartbeats 1000000 in
theorem own_Drop7 (s : Ses) (A : Option Addr) (n c : Nat) (V : World) (hl : s.ln.held.length = n) (hn : n ≤ 100000) (h : Sl V A n c 20 (icells s.ln.held)) :
    Calls Try.prog 12 #[.agg (sesArr s A n c)] V fun e w' => ∃ A' n' c', e = .returned (.agg (sesArr (dropS s) A' n' c')) ∧ (dropS s).ln.held.length = n' ∧ Sl w' A' n' c' 20 (icells (dropS s).ln.held) ∧ Below V.heap.size V w' := by
  have HI := Lib.hid (((RI.start V).add 29 (sesArr s A n c)).addAt 29 #[.int .i64 0, .int .i64 0, .slice none 0 0, .int .i64 0, .int .i64 0, .int .i64 0, .int .i64 0, .int .i64 0, .int .i64 0, .bool false] (V.heap.size + 1) (by simp)).swap
  have HS := Lib.hid (h.on HI.out.below)
  have HR := Lib.hid (own_Right7 s A n c _ hl HS.out)
  have HC := Lib.hid (fun (w : World) (h : Sl w A n c 20 (icells s.ln.held)) => own_copied s A n c hl hn w h)
  have HL := Lib.hid hl
  clear h hl
  rcases hr : s.rightB with _ | _
  · rw [hr] at HR
    have HD := Lib.hid (show dropS s = s from if_neg (by rw [hr]; decide))
    clear hr
    go_enter Try.func12, Try.ntmps12
    go_upto_region 1 with (fail)
    go_wp2_with (first | (refine wpList_load_row rfl 29 (.tmp 1) rfl _ rfl 29 (sesArr s A n c) (0, 0) _ HI.out.bx Try.underlying29 rfl infoS ?_) | (go_at_call 11; refine HR.out.mono ?_; rintro e w2 ⟨rfl, hb2⟩; have HI := Lib.hid (HI.out.on hb2); have HS := Lib.hid (HS.out.on hb2); clear hb2) | (go_at_call 15; refine (HC.out _ HS.out).mono ?_; rintro e w3 ⟨A3, c3, rfl, hs3, -, hb3⟩; have HI := Lib.hid (HI.out.on hb3).swap; have HS3 := Lib.hid hs3; clear hs3 hb3) | (refine ri_put rfl 29 (.tmp 2) (.tmp 7) rfl (sesArr s A3 n c3) rfl rfl HI.out rfl infoS (ses_one _ _ _ _) ?_; intro w4 hI4 hf4; have HS4 := Lib.hid (HS3.out.farI HI.out.bx (Nat.le_refl 10) hf4); have HI4 := Lib.hid hI4; clear hI4 hf4))
    refine bodyPost_ret (results_cell1 Try.results12 _ _ _ _ _ (0, 0) _ rfl HI4.out.bx Try.underlying29 rfl infoS) rfl ?_
    exact ⟨A3, n, c3, by rw [HD.out], by rw [HD.out]; exact HL.out, by rw [HD.out]; exact HS4.out, HI4.out.below⟩
  · rw [hr] at HR
    have HD := Lib.hid (show dropS s = { s with st := 0, ln := ⟨s.ln.next, []⟩ } from if_pos hr)
    clear hr HC
    go_enter Try.func12, Try.ntmps12
    go_upto_region 1 with (fail)
    go_wp2_with (first | (refine wpList_load_row rfl 29 (.tmp 1) rfl _ rfl 29 (sesArr s A n c) (0, 0) _ HI.out.bx Try.underlying29 rfl infoS ?_) | (go_at_call 11; refine HR.out.mono ?_; rintro e w2 ⟨rfl, hb2⟩; have HI2 := Lib.hid (HI.out.on hb2); clear hb2) | (refine ri_put1 rfl 3 (.tmp 8) (.const (.int .i64 0)) rfl 0 (.int .i64 0) rfl rfl rfl HI2.out (by show 0 < 10; decide) (by kernel_rfl) ?_; intro w3 hI3 _; have HI3 := Lib.hid hI3; clear hI3) | (refine ri_put1 rfl 25 (.tmp 10) (.const (.slice none 0 0)) rfl 2 (.slice none 0 0) rfl rfl rfl HI3.out (by show 2 < 10; decide) (by kernel_rfl) ?_; intro w4 hI4 _; have HI4 := Lib.hid ((hI4 : RI V [(V.heap.size, 29, sesArr { s with st := 0, ln := ⟨s.ln.next, []⟩ } none 0 0), (V.heap.size + 1, 29, _)] w4)); clear hI4) | (refine wpList_load_row rfl 29 (.tmp 1) rfl _ rfl 29 (sesArr { s with st := 0, ln := ⟨s.ln.next, []⟩ } none 0 0) (0, 0) _ HI4.out.bx Try.underlying29 rfl infoS ?_) | (refine ri_put rfl 29 (.tmp 2) (.tmp 11) rfl (sesArr { s with st := 0, ln := ⟨s.ln.next, []⟩ } none 0 0) rfl rfl HI4.out.swap rfl infoS (ses_one _ _ _ _) ?_; intro w5 hI5 _; have HI5 := Lib.hid hI5; clear hI5))
    refine bodyPost_ret (results_cell1 Try.results12 _ _ _ _ _ (0, 0) _ rfl HI5.out.bx Try.underlying29 rfl infoS) rfl ?_
    exact ⟨none, 0, 0, by rw [HD.out], by rw [HD.out]; rfl, by rw [HD.out]; exact Sl.none_ _ _, HI5.out.below⟩
end Go.Proofs.Ytblkdmbkkimbpaa
