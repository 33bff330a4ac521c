/-
  Layer 7: an argument that is a session, opened; slices of bools and of bytes, opened.
-/
import Derived.Test.YtblkdmbkkimbpaaSessOpen
namespace Go.Proofs.Ytblkdmbkkimbpaa
open Go.ChangeShapes Go.WideShapes Go.RowKit Go.Deep

section
variable {H : Type} {enc : TypeId × Value → H} {w : World} {base : Nat} {spare : Nat → Bool} {held : Bool}
theorem open_sess {fuel : Nat} {cs : Array Value} {x : DataW H × List MemPlace} (h : DataW.trod enc Try.prog w base spare held fuel 29 cs.toList = some x) :
    ∃ (s : Ses) (A : Option Addr) (n c : Nat), cs = sesArr s A n c ∧ s.ln.held.length = n ∧ Sl w A n c 20 (icells s.ln.held) := by
  obtain ⟨xs, n, _, _, hl, hx, hf⟩ := DataW.trod_struct Try.underlying29 h
  rw [show Try.prog.cellsOf 29 = 10 by kernel_rfl] at hl
  have hx3 : xs.length = 9 := hx
  have k2 : Try.prog.cellsOf 2 = 1 := by kernel_rfl
  have k3 : Try.prog.cellsOf 3 = 1 := by kernel_rfl
  have k4 : Try.prog.cellsOf 4 = 1 := by kernel_rfl
  have k9 : Try.prog.cellsOf 27 = 2 := by kernel_rfl
  obtain ⟨l⟩ := cs
  simp only at hl hf
  obtain ⟨a0, r0, rfl, hr0⟩ := cons_of (n := 9) hl
  obtain ⟨a1, r1, rfl, hr1⟩ := cons_of (n := 8) hr0
  obtain ⟨a2, r2, rfl, hr2⟩ := cons_of (n := 7) hr1
  obtain ⟨a3, r3, rfl, hr3⟩ := cons_of (n := 6) hr2
  obtain ⟨a4, r4, rfl, hr4⟩ := cons_of (n := 5) hr3
  obtain ⟨a5, r5, rfl, hr5⟩ := cons_of (n := 4) hr4
  obtain ⟨a6, r6, rfl, hr6⟩ := cons_of (n := 3) hr5
  obtain ⟨a7, r7, rfl, hr7⟩ := cons_of (n := 2) hr6
  obtain ⟨a8, r8, rfl, hr8⟩ := cons_of (n := 1) hr7
  obtain ⟨a9, r9, rfl, hr9⟩ := cons_of (n := 0) hr8
  obtain rfl := nil_of hr9
  have g0 := hf 0 { name := "State", type := 3, offset := 0, embedded := false, tag := "", pkgPath := "", byteOffset := 0 } rfl
  dsimp only at g0
  rw [k3, List.getElem?_eq_getElem (show 0 < xs.length by omega)] at g0
  simp only [List.drop_zero, List.take_succ_cons, List.take_zero] at g0
  obtain ⟨z0, hz0, _, _⟩ := DataW.trod_int Try.underlying3 g0
  injection hz0 with hz0; subst hz0
  have g1 := hf 1 { name := "In", type := 27, offset := 1, embedded := false, tag := "", pkgPath := "", byteOffset := 8 } rfl
  dsimp only at g1
  rw [k9, List.getElem?_eq_getElem (show 1 < xs.length by omega)] at g1
  simp only [List.drop_succ_cons, List.drop_zero, List.take_succ_cons, List.take_zero] at g1
  obtain ⟨k, A, len, c, l, hln, _, h1, h2, _⟩ := open_line (cs := #[a1, a2]) g1
  unfold lnArr at hln
  injection hln with hln
  injection hln with e1 hln
  injection hln with e2 _
  subst e1; subst e2
  have g2 := hf 2 { name := "Out", type := 2, offset := 3, embedded := false, tag := "", pkgPath := "", byteOffset := 40 } rfl
  dsimp only at g2
  rw [k2, List.getElem?_eq_getElem (show 2 < xs.length by omega)] at g2
  simp only [List.drop_succ_cons, List.drop_zero, List.take_succ_cons, List.take_zero] at g2
  obtain ⟨z2, hz2, _, _⟩ := DataW.trod_int Try.underlying2 g2
  injection hz2 with hz2; subst hz2
  have g3 := hf 3 { name := "Every", type := 2, offset := 4, embedded := false, tag := "", pkgPath := "", byteOffset := 48 } rfl
  dsimp only at g3
  rw [k2, List.getElem?_eq_getElem (show 3 < xs.length by omega)] at g3
  simp only [List.drop_succ_cons, List.drop_zero, List.take_succ_cons, List.take_zero] at g3
  obtain ⟨z3, hz3, _, _⟩ := DataW.trod_int Try.underlying2 g3
  injection hz3 with hz3; subst hz3
  have g4 := hf 4 { name := "Heard", type := 2, offset := 5, embedded := false, tag := "", pkgPath := "", byteOffset := 56 } rfl
  dsimp only at g4
  rw [k2, List.getElem?_eq_getElem (show 4 < xs.length by omega)] at g4
  simp only [List.drop_succ_cons, List.drop_zero, List.take_succ_cons, List.take_zero] at g4
  obtain ⟨z4, hz4, _, _⟩ := DataW.trod_int Try.underlying2 g4
  injection hz4 with hz4; subst hz4
  have g5 := hf 5 { name := "Said", type := 2, offset := 6, embedded := false, tag := "", pkgPath := "", byteOffset := 64 } rfl
  dsimp only at g5
  rw [k2, List.getElem?_eq_getElem (show 5 < xs.length by omega)] at g5
  simp only [List.drop_succ_cons, List.drop_zero, List.take_succ_cons, List.take_zero] at g5
  obtain ⟨z5, hz5, _, _⟩ := DataW.trod_int Try.underlying2 g5
  injection hz5 with hz5; subst hz5
  have g6 := hf 6 { name := "Asked", type := 2, offset := 7, embedded := false, tag := "", pkgPath := "", byteOffset := 72 } rfl
  dsimp only at g6
  rw [k2, List.getElem?_eq_getElem (show 6 < xs.length by omega)] at g6
  simp only [List.drop_succ_cons, List.drop_zero, List.take_succ_cons, List.take_zero] at g6
  obtain ⟨z6, hz6, _, _⟩ := DataW.trod_int Try.underlying2 g6
  injection hz6 with hz6; subst hz6
  have g7 := hf 7 { name := "When", type := 2, offset := 8, embedded := false, tag := "", pkgPath := "", byteOffset := 80 } rfl
  dsimp only at g7
  rw [k2, List.getElem?_eq_getElem (show 7 < xs.length by omega)] at g7
  simp only [List.drop_succ_cons, List.drop_zero, List.take_succ_cons, List.take_zero] at g7
  obtain ⟨z7, hz7, _, _⟩ := DataW.trod_int Try.underlying2 g7
  injection hz7 with hz7; subst hz7
  have g8 := hf 8 { name := "Tested", type := 4, offset := 9, embedded := false, tag := "", pkgPath := "", byteOffset := 88 } rfl
  dsimp only at g8
  rw [k4, List.getElem?_eq_getElem (show 8 < xs.length by omega)] at g8
  simp only [List.drop_succ_cons, List.drop_zero, List.take_succ_cons, List.take_zero] at g8
  obtain ⟨z8, hz8, _⟩ := DataW.trod_bool Try.underlying4 g8
  injection hz8 with hz8; subst hz8
  exact ⟨⟨z0, ⟨k, l⟩, z2, z3, z4, z5, z6, z7, z8⟩, A, len, c, rfl, h1, h2⟩
end
end Go.Proofs.Ytblkdmbkkimbpaa
