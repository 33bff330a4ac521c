/-
  Layer 7: the program's own way: Right, heeds, New, Drop: its contracts.
-/
import Derived.Test.YtblkdmbkkimbpaaSessBuild
import Derived.Test.YtblkdmbkkimbpaaReseqOwn
namespace Go.Proofs.Ytblkdmbkkimbpaa
open Go.RowKit

theorem ses_line {W : World} {g : Nat} {t : TypeId} {s : Ses} {A : Option Addr} {n c : Nat} (h : Box W g t (sesArr s A n c)) : W.rangeAt g 1 [.int .i64 s.ln.next, .slice A n c] := fun j z hz => by
  rw [h.cell]
  rcases j with _ | _ | j
  · simp at hz; subst hz; rfl
  · simp at hz; subst hz; rfl
  · simp at hz
theorem rightB_split (s : Ses) : s.rightB = (decide (0 ≤ s.st) && (decide (s.st ≤ 2) && (s.ln.rightB && (decide (1 ≤ s.out) && (decide (s.out ≤ 1099511627776) && (evB s.every && (tmB s.heard && (tmB s.said && (tmB s.asked && tmB s.at_))))))))) := by
  unfold Ses.rightB evB
  rw [Bool.decide_and, Bool.decide_and]
  simp only [Bool.and_assoc]
set_option maxRecDepth 100000 in
set_option maxHeartbeats 2000000 in
theorem own_Right7 (s : Ses) (A : Option Addr) (n c : Nat) (V : World) (hl : s.ln.held.length = n) (h : Sl V A n c 20 (icells s.ln.held)) :
    Calls Try.prog 11 #[.agg (sesArr s A n c)] V fun e w' => e = .returned (.bool s.rightB) ∧ Below V.heap.size V w' := by
  have HB := Lib.hid (rightB_split s)
  have HI := Lib.hid ((RI.start V).add 29 (sesArr s A n c))
  have HR := Lib.hid (own_Right s.ln.next A n c s.ln.held hl _ (h.on HI.out.below))
  rw [show (⟨s.ln.next, s.ln.held⟩ : Ln) = s.ln from rfl] at HR
  have hra := ses_line HI.out.bx
  have HI2 := Lib.hid (fun w' (hb : Below (V.alloc (.cells (sesArr s A n c) 29)).heap.size (V.alloc (.cells (sesArr s A n c) 29)) w') => HI.out.on hb)
  have c0 := (HI.out.cell 0).trans (show _ = some (Value.int .i64 s.st) from rfl)
  generalize s.ln.rightB = lb at *
  clear h hl
  go_enter Try.func11, Try.ntmps11
  go_wp2_with (first | (go_guarded; refine wp_load_mid 27 (.tmp 12) rfl V.heap.size 1 rfl [.int .i64 s.ln.next, .slice A n c] _ hra Try.underlying27 rfl infoL ?_; try simp only [Act.put, List.setIfInBounds_toArray, List.set_cons_zero, List.set_cons_succ]) | (go_at_call 24; refine HR.out.mono ?_; rintro e w2 ⟨rfl, hb2⟩; have HI3 := Lib.hid (HI2.out _ hb2); clear hb2; have d3 := (HI3.out.cell 3).trans (show _ = some (Value.int .i64 s.out) from rfl); have d4 := (HI3.out.cell 4).trans (show _ = some (Value.int .i64 s.every) from rfl); have d5 := (HI3.out.cell 5).trans (show _ = some (Value.int .i64 s.heard) from rfl); have d6 := (HI3.out.cell 6).trans (show _ = some (Value.int .i64 s.said) from rfl); have d7 := (HI3.out.cell 7).trans (show _ = some (Value.int .i64 s.asked) from rfl); have d8 := (HI3.out.cell 8).trans (show _ = some (Value.int .i64 s.at_) from rfl)) | (go_at_call 13; refine (own_every7 _ _).mono ?_; rintro e w' ⟨rfl, rfl⟩) | (go_at_call 14; refine (own_isTime7 _ _).mono ?_; rintro e w' ⟨rfl, rfl⟩))
  all_goals
    go_ret
    refine ⟨retB ?_, by first | exact HI3.out.below | exact HI.out.below⟩
    rw [HB.out]
    first
    | (simp_all; done)
    | (simp_all; omega)
    | trace_state
end Go.Proofs.Ytblkdmbkkimbpaa
