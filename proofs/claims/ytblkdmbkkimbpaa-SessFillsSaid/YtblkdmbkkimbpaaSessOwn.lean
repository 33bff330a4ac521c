/-
  Layer 7: the program's own way: times, copies, what it says, what it skips: its contracts.
-/
import Derived.Test.YtblkdmbkkimbpaaSessTk
import Derived.Test.YtblkdmbkkimbpaaReseqIns2
namespace Go.Proofs.Ytblkdmbkkimbpaa
open Go.RowKit

theorem results_cell1 {P : Program} {fn : Func} {p : Tmp} {ty : TypeId} (h : fn.results = #[.cell p ty]) (tmps : Array Value) (w : World) (g : Nat) (t : TypeId) (cs : Array Value) (fr : Nat × Nat) (d : TypeDesc)
    (hp : tmps.getD p undef = .pointer (some ⟨g, 0, none⟩)) (hg : w.heap[g]? = some (.cells cs t fr)) (hu : P.underlying ty = some d) (hd : (match d with | .struct _ | .array _ _ => true | _ => false) = true) (hi : (P.info? ty).map (·.size) = some cs.size) :
    (results fn tmps).run P w = .ok (.agg cs) w := by
  have hp' : tmps[p]?.getD undef = .pointer (some ⟨g, 0, none⟩) := by simpa using hp
  simp [results, h, hp', asAddr, run_loadVar_row w g t ty cs fr d hg hu hd hi]
theorem results_cell_tmp4 {P : Program} {fn : Func} {p u v x y : Tmp} {ty : TypeId} (h : fn.results = #[.cell p ty, .tmp u, .tmp v, .tmp x, .tmp y]) (tmps : Array Value) (w : World) (g : Nat) (t : TypeId) (cs : Array Value) (fr : Nat × Nat) (d : TypeDesc)
    (hp : tmps.getD p undef = .pointer (some ⟨g, 0, none⟩)) (hg : w.heap[g]? = some (.cells cs t fr)) (hu : P.underlying ty = some d) (hd : (match d with | .struct _ | .array _ _ => true | _ => false) = true) (hi : (P.info? ty).map (·.size) = some cs.size) :
    (results fn tmps).run P w = .ok (.tuple #[.agg cs, tmps.getD u undef, tmps.getD v undef, tmps.getD x undef, tmps.getD y undef]) w := by
  have hp' : tmps[p]?.getD undef = .pointer (some ⟨g, 0, none⟩) := by simpa using hp
  simp [results, h, hp', asAddr, run_loadVar_row w g t ty cs fr d hg hu hd hi]
theorem own_isTime7 (k : Int) (w : World) : Calls Try.prog 14 #[.int .i64 k] w fun e w' => e = .returned (.bool (tmB k)) ∧ w = w' := by
  have H := Lib.hid (show tmB k = (decide (0 ≤ k) && decide (k ≤ 4611686018427387904)) from Bool.decide_and _ _)
  by_cases h : 0 ≤ k
  · go_enter Try.func14, Try.ntmps14
    go_wp2
    go_ret
    exact ⟨retB (by rw [H.out, decide_eq_true (show 0 ≤ k by omega), Bool.true_and]), rfl⟩
  · go_enter Try.func14, Try.ntmps14
    go_wp2
    go_ret
    exact ⟨retB (by rw [H.out, decide_eq_false (show ¬ 0 ≤ k by omega)]; rfl), rfl⟩
def evB (k : Int) : Bool := decide (1 ≤ k ∧ k ≤ 1048576)
theorem own_every7 (k : Int) (w : World) : Calls Try.prog 13 #[.int .i64 k] w fun e w' => e = .returned (.bool (evB k)) ∧ w = w' := by
  have H := Lib.hid (show evB k = (decide (1 ≤ k) && decide (k ≤ 1048576)) from Bool.decide_and _ _)
  by_cases h : 1 ≤ k
  · go_enter Try.func13, Try.ntmps13
    go_wp2
    go_ret
    exact ⟨retB (by rw [H.out, decide_eq_true (show 1 ≤ k by omega), Bool.true_and]), rfl⟩
  · go_enter Try.func13, Try.ntmps13
    go_wp2
    go_ret
    exact ⟨retB (by rw [H.out, decide_eq_false (show ¬ 1 ≤ k by omega)]; rfl), rfl⟩
/-- What 'copied' answers: the session with a line of its own. -/
def CopyPost (s : Ses) (n : Nat) (w : World) (e : Ending) (w' : World) : Prop :=
  ∃ A' c', e = .returned (.agg (sesArr s A' n c')) ∧ Sl w' A' n c' 20 (icells s.ln.held) ∧ Fr w.heap.size A' ∧ Below w.heap.size w w'
set_option maxRecDepth 100000 in
set_option maxHeartbeats 1000000 in
theorem own_copied (s : Ses) (A : Option Addr) (n c : Nat) (hl : s.ln.held.length = n) (hn : n ≤ 100000) (W : World) (h : Sl W A n c 20 (icells s.ln.held)) :
    Calls Try.prog 15 #[.agg (sesArr s A n c)] W (CopyPost s n W) := by
  have HI := Lib.hid (((RI.start W).add 29 (sesArr s A n c)).addAt 29 #[.int .i64 0, .int .i64 0, .slice none 0 0, .int .i64 0, .int .i64 0, .int .i64 0, .int .i64 0, .int .i64 0, .int .i64 0, .bool false] (W.heap.size + 1) (by simp)).swap
  have HCl := Lib.hid (own_Clone A n c s.ln.held hl _ (h.on HI.out.below) hn)
  have h2 := (HI.out.cell 2).trans (show _ = some (.slice A n c) from rfl)
  clear h
  go_enter Try.func15, Try.ntmps15
  go_upto_region 1 with (fail)
  go_wp2_with fail
  refine HCl.out.mono ?_
  rintro e w1 ⟨v1, rfl, hown, hb1⟩
  obtain ⟨A1, c1, rfl, hs1, _⟩ := Sl.of_own hown
  have HI := Lib.hid (HI.out.on hb1)
  have HF := Lib.hid ((Fr.own hown : Fr _ A1))
  have HS := Lib.hid hs1
  clear hown hs1 hb1 HCl h2
  go_upto_region 2 with (first | (refine ri_put1 rfl 25 (.tmp 8) (.tmp 6) rfl 2 (.slice A1 n c1) rfl rfl rfl HI.out (by show 2 < 10; decide) (by kernel_rfl) ?_; intro w2 hI2 hf2; have HS := Lib.hid (HS.out.farI HI.out.bx (Nat.le_refl 10) hf2); have HI := Lib.hid hI2; clear hI2 hf2))
  have HI := Lib.hid ((HI.out : RI W [(W.heap.size, 29, sesArr s A1 n c1), (W.heap.size + 1, 29, #[.int .i64 0, .int .i64 0, .slice none 0 0, .int .i64 0, .int .i64 0, .int .i64 0, .int .i64 0, .int .i64 0, .int .i64 0, .bool false])] _))
  go_wp2_with (first | (refine wpList_load_row rfl 29 (.tmp 1) rfl _ rfl 29 _ (0, 0) _ HI.out.bx Try.underlying29 rfl infoS ?_) | (refine ri_put rfl 29 (.tmp 2) (.tmp 9) rfl (sesArr s A1 n c1) rfl rfl HI.out.swap rfl infoS (ses_one _ _ _ _) ?_; intro w3 hI3 hf3; have HS := Lib.hid (HS.out.farI HI.out.swap.bx (Nat.le_refl 10) hf3); have HI := Lib.hid hI3; clear hI3 hf3))
  refine bodyPost_ret (results_cell1 Try.results15 _ _ _ _ _ (0, 0) _ rfl HI.out.bx Try.underlying29 rfl infoS) rfl ?_
  exact ⟨A1, c1, rfl, HS.out, fun a e => Nat.le_trans (by simp [World.size_alloc]; omega) (HF.out a e), HI.out.below⟩
end Go.Proofs.Ytblkdmbkkimbpaa
