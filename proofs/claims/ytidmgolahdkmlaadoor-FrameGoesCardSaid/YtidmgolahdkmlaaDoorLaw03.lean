/-
  Layer 3's laws: the fixed answer.
-/
import Derived.Test.YtidmgolahdkmlaaDoorFrmNext
namespace Go.Proofs.YtidmgolahdkmlaaDoor
open Go.RowKit

def fx : List UInt8 := [51, 53, 61, 48, 1]
def fxB : List UInt8 := [56, 61, 70, 73, 88, 46, 52, 46, 52, 1, 57, 61, 53, 1, 51, 53, 61, 48, 1, 49, 48, 61, 49, 54, 51, 1]
theorem fx_right : frmR fx = true := by kernel_rfl
theorem fx_frame : frmB fx = fxB := by
  have h : headB fx = [56, 61, 70, 73, 88, 46, 52, 46, 52, 1, 57, 61, 53, 1, 51, 53, 61, 48, 1] := by
    unfold headB
    rw [show fx.length = 5 from rfl, decDigits_small (by omega)]; rfl
  unfold frmB
  rw [h]; rfl
theorem fx_junk : nxt [120, 56, 61, 70] = (2, [], 1) := by kernel_rfl
theorem convConst (W : World) (C : Array Value) (n m m' : Nat) (hm : C.size = m) (hm' : m' = m + 1) : (convert 22 22 (.slice (some ⟨W.heap.size, 0, none⟩) n n)).run Tryd.prog (W.alloc (.cells C 5)) = .ok (.slice (some ⟨W.heap.size, 0, none⟩) n n) (W.alloc (.cells C 5 (m, m'))) := by
  subst hm; subst hm'
  exact Lib.run_convert_bytes_const W _ _ C n n Tryd.underlying22 Tryd.underlying5
theorem sl_lit (w : World) (cs : Array Value) (t : TypeId) (n m m' : Nat) (l : List UInt8) (hs : cs.size = n) (hm : m = n) (hx : cs.toList = bcells l) (hn : n ≤ maxLen) : Sl (w.alloc (.cells cs t (m, m'))) (some ⟨w.heap.size, 0, none⟩) n n 1 (bcells l) := by
  obtain ⟨g, c, hv, h, _⟩ := Mo.of_block (base := w.heap.size) (n := n) (cap := n) (Nat.le_refl _) (heap_alloc_new w (.cells cs t (m, m'))) (.inr (show cs.size ≤ m by omega)) hs (show cs.toList.take n = bcells l by rw [← hx]; exact List.take_of_length_le (by rw [Array.length_toList]; omega)) (Nat.le_refl _) hn |>.sl
  injection hv with hv1 _ hv2
  injection hv1 with hv1
  injection hv1 with hv1 _ _
  subst hv1; subst hv2
  exact h
set_option maxRecDepth 100000 in
set_option maxHeartbeats 1000000 in
theorem awake03 (w : World) (hctx : FCtx w) : Calls Tryd.prog 8 #[] w fun e w' => e = .returned (.bool true) ∧ Below w.heap.size w w' := by
  obtain ⟨i0, hi, iz0, iz1, iz2⟩ := info_parts infoB
  have k5 := fun W : World => convConst W #[.int .u8 51, .int .u8 53, .int .u8 61, .int .u8 48, .int .u8 1] 5 5 6 rfl rfl
  have k4 := fun W : World => convConst W #[.int .u8 120, .int .u8 56, .int .u8 61, .int .u8 70] 4 4 5 rfl rfl
  have hB0 := (Below.refl w.heap.size w).alloc (Nat.le_refl _) (.cells #[.int .u8 51, .int .u8 53, .int .u8 61, .int .u8 48, .int .u8 1] 5 (5, 6))
  have hs1 := sl_lit w #[.int .u8 51, .int .u8 53, .int .u8 61, .int .u8 48, .int .u8 1] 5 5 5 6 fx rfl rfl rfl (by decide)
  have hput := frame_Put _ 5 5 fx _ hs1 rfl (by omega) (hctx.on hB0)
  obtain ⟨e1, e2⟩ := frmE_ok fx_right
  rw [show FPutPost fx (w.alloc (.cells #[.int .u8 51, .int .u8 53, .int .u8 61, .int .u8 48, .int .u8 1] 5 (5, 6))) = fun e w' => ∃ f, e = .returned (.tuple #[f, .int .i64 0]) ∧ Moz w' (w.heap.size + 1) f 26 (bcells fxB) ∧ Below (w.heap.size + 1) (w.alloc (.cells #[.int .u8 51, .int .u8 53, .int .u8 61, .int .u8 48, .int .u8 1] 5 (5, 6))) w' from by
    funext e w'; unfold FPutPost; rw [e1, e2, fx_frame, World.size_alloc]; rfl] at hput
  have Hput := Lib.hid hput
  clear hput hs1 e1 e2
  go_enter Tryd.func8, Tryd.ntmps8
  go_wp2_with fail
  refine Hput.out.mono ?_
  rintro e w1 ⟨f, rfl, hmo, hb1⟩
  have hz1 := hb1.size
  simp only [World.size_alloc] at hz1
  have hB1 : Below w.heap.size w w1 := hB0.trans (hb1.mono (by omega))
  have own1 : Mo w1 w.heap.size f 26 (bcells fxB) := by
    rcases hmo with ⟨_, h0, _⟩ | h
    · cases h0
    · exact h.base_le (by omega)
  obtain ⟨g1, c1, rfl, hs1, hg1, hg2⟩ := own1.sl
  clear hmo Hput k5
  go_wp2_with (at_builtin; refine wpList_append_mo rfl (.tmp 16) (.tmp 17) 22 rfl w.heap.size 5 i0 Tryd.underlying22 hi iz0 iz1 iz2 _ _ _ rfl (own1.alloc _) (some ⟨w1.heap.size, 0, none⟩) 1 1 [.int .u8 120] rfl (sl_new1 w1 _ _) (one_cell1 _ _) (by decide) (by omega) (by simp; omega) ?_)
  intro v3 w3 own3 hg3 hkeep
  have hrow := hkeep
  have hB3 := (own1.alloc _).below (hB1.alloc (by omega) _) hg3 (by simp; omega) (Nat.le_refl _)
  have hz3 := hg3.size
  simp only [World.size_alloc] at hz3
  have own3' : Mo w3 w.heap.size v3 27 (bcells (fxB ++ [120])) := own3.cast (by simp [bcells]) rfl
  obtain ⟨g3, c3, rfl, hs3, _⟩ := own3'.sl
  have hnx := frame_Next _ 27 c3 (fxB ++ [120]) w3 hs3 rfl (by omega) (hctx.on hB3)
  have en := nxt_found fx_right [120]
  rw [fx_frame] at en
  rw [show NextPost (fxB ++ [120]) w3 = fun e w' => ∃ A n c, e = .returned (.tuple #[.int .i64 1, .slice A n c, .int .i64 26]) ∧ Sl w' A n c 1 (bcells fx) ∧ Below w3.heap.size w3 w' ∧ Fm A from by
    funext e w'; unfold NextPost; rw [en]; rfl] at hnx
  have Hnx := Lib.hid hnx
  clear hnx own3 own3' hs3 en hkeep hg3 own1
  go_wp2_with fail
  refine Hnx.out.mono ?_
  rintro e w4 ⟨A4, n4, c4, rfl, hs4, hb4, fm4⟩
  have hz4 := hb4.size
  have hB4 : Below w.heap.size w w4 := hB3.trans (hb4.mono hB3.size)
  obtain rfl : n4 = 5 := by have := hs4.len; rw [bcells_len] at this; simp [fx] at this; omega
  have hB5 := hB4.alloc hB4.size (.cells #[.int .u8 120, .int .u8 56, .int .u8 61, .int .u8 70] 5 (4, 5))
  have hs5 := sl_lit w4 #[.int .u8 120, .int .u8 56, .int .u8 61, .int .u8 70] 5 4 4 5 [120, 56, 61, 70] rfl rfl rfl (by decide)
  have hn2 := frame_Next _ 4 4 [120, 56, 61, 70] _ hs5 rfl (by omega) (hctx.on hB5)
  rw [show NextPost [120, 56, 61, 70] (w4.alloc (.cells #[.int .u8 120, .int .u8 56, .int .u8 61, .int .u8 70] 5 (4, 5))) = fun e w' => ∃ A n c, e = .returned (.tuple #[.int .i64 2, .slice A n c, .int .i64 1]) ∧ Sl w' A n c 1 [] ∧ Below (w4.heap.size + 1) (w4.alloc (.cells #[.int .u8 120, .int .u8 56, .int .u8 61, .int .u8 70] 5 (4, 5))) w' ∧ Fm A from by
    funext e w'; unfold NextPost; rw [fx_junk, World.size_alloc]; rfl] at hn2
  have Hn2 := Lib.hid hn2
  have hrow4 := hrow.on hb4
  have hs4d := hs4
  clear hn2 hs5 Hnx hrow
  go_wp2_with fail
  refine Hn2.out.mono ?_
  rintro e w6 ⟨A6, n6, c6, rfl, hs6, hb6, fm6⟩
  have hz6 := hb6.size
  simp only [World.size_alloc] at hz6
  have hB6 : Below w.heap.size w w6 := hB5.trans (hb6.mono (by have := hB4.size; omega))
  have hstep : Below w4.heap.size w4 w6 := ((Below.refl _ _).alloc (Nat.le_refl _) _).trans (hb6.mono (by omega))
  have hcv1 : (convert 22 9 (.slice (some ⟨g1, 0, none⟩) 26 c1)).run Tryd.prog w6 = .ok (.string ⟨#[56, 61, 70, 73, 88, 46, 52, 46, 52, 1, 57, 61, 53, 1, 51, 53, 61, 48, 1, 49, 48, 61, 49, 54, 51, 1]⟩) w6 :=
    conv_row (l := fxB) (hrow4.on hstep) (fun h => by cases h) (fun _ => .inr ⟨_, _, rfl⟩) 26 c1 rfl
  have hcv2 : (convert 22 9 (.slice A4 5 c4)).run Tryd.prog w6 = .ok (.string ⟨#[51, 53, 61, 48, 1]⟩) w6 := conv_sl (l := fx) (hs4d.on hstep)
  clear hrow4 hs4 hs4d hs6 Hn2 k4 hs1
  go_wp2
  go_ret
  exact ⟨rfl, hB6⟩
end Go.Proofs.YtidmgolahdkmlaaDoor
