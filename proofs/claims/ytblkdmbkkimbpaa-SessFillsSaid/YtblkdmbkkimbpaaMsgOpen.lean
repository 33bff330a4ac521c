/-
  Layer 5: an argument that is a message, opened.
-/
import Derived.Test.YtblkdmbkkimbpaaProg
import Derived.Test.YtblkdmbkkimbpaaOpen
import Derived.Test.YtblkdmbkkimbpaaMg
import Derived.OpenShut
import Derived.ShutString
import Derived.ChangeOld
import Derived.KernelRfl
namespace Go.Proofs.Ytblkdmbkkimbpaa
open Go.ChangeShapes Go.WideShapes Go.RowKit Go.Deep
section
variable {H : Type} {enc : TypeId × Value → H} {w : World} {base : Nat} {spare : Nat → Bool} {held : Bool}
theorem cons_of {α : Type} {l : List α} {n : Nat} (h : l.length = n + 1) : ∃ a r, l = a :: r ∧ r.length = n := by
  cases l with
  | nil => simp at h
  | cons a r => exact ⟨a, r, rfl, by simpa using h⟩
theorem nil_of {α : Type} {l : List α} (h : l.length = 0) : l = [] := List.eq_nil_of_length_eq_zero h
theorem list10 {α : Type} {l : List α} (h : l.length = 10) : ∃ x0 x1 x2 x3 x4 x5 x6 x7 x8 x9, l = [x0, x1, x2, x3, x4, x5, x6, x7, x8, x9] := by
  obtain ⟨x0, r0, rfl, h0⟩ := cons_of h
  obtain ⟨x1, r1, rfl, h1⟩ := cons_of h0
  obtain ⟨x2, r2, rfl, h2⟩ := cons_of h1
  obtain ⟨x3, r3, rfl, h3⟩ := cons_of h2
  obtain ⟨x4, r4, rfl, h4⟩ := cons_of h3
  obtain ⟨x5, r5, rfl, h5⟩ := cons_of h4
  obtain ⟨x6, r6, rfl, h6⟩ := cons_of h5
  obtain ⟨x7, r7, rfl, h7⟩ := cons_of h6
  obtain ⟨x8, r8, rfl, h8⟩ := cons_of h7
  obtain ⟨x9, r9, rfl, h9⟩ := cons_of h8
  obtain rfl := nil_of h9
  exact ⟨x0, x1, x2, x3, x4, x5, x6, x7, x8, x9, rfl⟩
theorem list18 {α : Type} {l : List α} (h : l.length = 18) : ∃ x0 x1 x2 x3 x4 x5 x6 x7 x8 x9 x10 x11 x12 x13 x14 x15 x16 x17, l = [x0, x1, x2, x3, x4, x5, x6, x7, x8, x9, x10, x11, x12, x13, x14, x15, x16, x17] := by
  obtain ⟨x0, r0, rfl, h0⟩ := cons_of h
  obtain ⟨x1, r1, rfl, h1⟩ := cons_of h0
  obtain ⟨x2, r2, rfl, h2⟩ := cons_of h1
  obtain ⟨x3, r3, rfl, h3⟩ := cons_of h2
  obtain ⟨x4, r4, rfl, h4⟩ := cons_of h3
  obtain ⟨x5, r5, rfl, h5⟩ := cons_of h4
  obtain ⟨x6, r6, rfl, h6⟩ := cons_of h5
  obtain ⟨x7, r7, rfl, h7⟩ := cons_of h6
  obtain ⟨x8, r8, rfl, h8⟩ := cons_of h7
  obtain ⟨x9, r9, rfl, h9⟩ := cons_of h8
  obtain ⟨x10, r10, rfl, h10⟩ := cons_of h9
  obtain ⟨x11, r11, rfl, h11⟩ := cons_of h10
  obtain ⟨x12, r12, rfl, h12⟩ := cons_of h11
  obtain ⟨x13, r13, rfl, h13⟩ := cons_of h12
  obtain ⟨x14, r14, rfl, h14⟩ := cons_of h13
  obtain ⟨x15, r15, rfl, h15⟩ := cons_of h14
  obtain ⟨x16, r16, rfl, h16⟩ := cons_of h15
  obtain ⟨x17, r17, rfl, h17⟩ := cons_of h16
  obtain rfl := nil_of h17
  exact ⟨x0, x1, x2, x3, x4, x5, x6, x7, x8, x9, x10, x11, x12, x13, x14, x15, x16, x17, rfl⟩
theorem trod_exc {fuel : Nat} {cs : List Value} {x : DataW H × List MemPlace} (h : DataW.trod enc Try.prog w base spare held fuel 39 cs = some x) : ∃ y : Exc, cs = y.cells ∧ y.In := by
  obtain ⟨n, hl, hf⟩ := trod_cells Try.underlying39 (by kernel_rfl) (by kernel_rfl) h
  obtain ⟨x0, x1, x2, x3, x4, x5, x6, x7, x8, x9, rfl⟩ := list10 (l := cs) hl
  obtain ⟨v0, y0, e0, g0⟩ := hf 0 _ rfl
  injection e0 with e0; subst e0
  obtain ⟨s0, hs0, _, hz0⟩ := DataW.trod_string Try.underlying9 g0
  injection hs0 with hs0; subst hs0
  obtain ⟨v1, y1, e1, g1⟩ := hf 1 _ rfl
  injection e1 with e1; subst e1
  obtain ⟨s1, hs1, _, hz1⟩ := DataW.trod_string Try.underlying9 g1
  injection hs1 with hs1; subst hs1
  obtain ⟨v2, y2, e2, g2⟩ := hf 2 _ rfl
  injection e2 with e2; subst e2
  obtain ⟨s2, hs2, _, hz2⟩ := DataW.trod_string Try.underlying9 g2
  injection hs2 with hs2; subst hs2
  obtain ⟨v3, y3, e3, g3⟩ := hf 3 _ rfl
  injection e3 with e3; subst e3
  obtain ⟨s3, hs3, _, hz3⟩ := DataW.trod_string Try.underlying9 g3
  injection hs3 with hs3; subst hs3
  obtain ⟨v4, y4, e4, g4⟩ := hf 4 _ rfl
  injection e4 with e4; subst e4
  obtain ⟨s4, hs4, _, hz4⟩ := DataW.trod_string Try.underlying9 g4
  injection hs4 with hs4; subst hs4
  obtain ⟨v5, y5, e5, g5⟩ := hf 5 _ rfl
  injection e5 with e5; subst e5
  obtain ⟨s5, hs5, _, hz5⟩ := DataW.trod_int Try.underlying3 g5
  injection hs5 with hs5; subst hs5
  obtain ⟨v6, y6, e6, g6⟩ := hf 6 _ rfl
  injection e6 with e6; subst e6
  obtain ⟨s6, hs6, _⟩ := DataW.trod_bool Try.underlying4 g6
  injection hs6 with hs6; subst hs6
  obtain ⟨v7, y7, e7, g7⟩ := hf 7 _ rfl
  injection e7 with e7; subst e7
  obtain ⟨s7, hs7, _, hz7⟩ := DataW.trod_int Try.underlying2 g7
  injection hs7 with hs7; subst hs7
  obtain ⟨v8, y8, e8, g8⟩ := hf 8 _ rfl
  injection e8 with e8; subst e8
  obtain ⟨s8, hs8, _, hz8⟩ := DataW.trod_int Try.underlying2 g8
  injection hs8 with hs8; subst hs8
  obtain ⟨v9, y9, e9, g9⟩ := hf 9 _ rfl
  injection e9 with e9; subst e9
  obtain ⟨s9, hs9, _, hz9⟩ := DataW.trod_int Try.underlying2 g9
  injection hs9 with hs9; subst hs9
  exact ⟨⟨s0, s1, s2, s3, s4, s5, s6, s7, s8, s9⟩, rfl, ⟨by simpa [Lit.wf, IntKind.min, IntKind.max, IntKind.signed, IntKind.bits] using hz5, by simpa [Lit.wf, IntKind.min, IntKind.max, IntKind.signed, IntKind.bits] using hz7, by simpa [Lit.wf, IntKind.min, IntKind.max, IntKind.signed, IntKind.bits] using hz8, by simpa [Lit.wf, IntKind.min, IntKind.max, IntKind.signed, IntKind.bits] using hz9, hz0, hz1, hz2, hz3, hz4⟩⟩
theorem open_msg {fuel : Nat} {cs : Array Value} {x : DataW H × List MemPlace} (h : DataW.trod enc Try.prog w base spare held fuel 41 cs.toList = some x) : ∃ m : Mg, cs = m.arr ∧ m.In := by
  obtain ⟨xs, n, _, _, hl, hx, hf⟩ := DataW.trod_struct Try.underlying41 h
  rw [show Try.prog.cellsOf 41 = 18 by kernel_rfl] at hl
  obtain ⟨l⟩ := cs
  simp only at hl hf
  obtain ⟨x0, x1, x2, x3, x4, x5, x6, x7, x8, x9, x10, x11, x12, x13, x14, x15, x16, x17, rfl⟩ := list18 (l := l) hl
  have hx9 : xs.length = 9 := hx
  have k1 : Try.prog.cellsOf 3 = 1 := by kernel_rfl
  have k2 : Try.prog.cellsOf 2 = 1 := by kernel_rfl
  have k3 : Try.prog.cellsOf 4 = 1 := by kernel_rfl
  have k4 : Try.prog.cellsOf 9 = 1 := by kernel_rfl
  have k5 : Try.prog.cellsOf 39 = 10 := by kernel_rfl
  have g0 := hf 0 { name := "Kind", type := 3, offset := 0, embedded := false, tag := "", pkgPath := "", byteOffset := 0 } rfl
  dsimp only at g0
  rw [k1, List.getElem?_eq_getElem (show 0 < xs.length by omega)] at g0
  simp only [List.drop_zero, List.take_succ_cons, List.take_zero] at g0
  obtain ⟨s0, hs0, _, hz0⟩ := DataW.trod_int Try.underlying3 g0
  injection hs0 with hs0; subst hs0
  have g1 := hf 1 { name := "Seq", type := 2, offset := 1, embedded := false, tag := "", pkgPath := "", byteOffset := 8 } rfl
  dsimp only at g1
  rw [k2, List.getElem?_eq_getElem (show 1 < xs.length by omega)] at g1
  simp only [List.drop_succ_cons, List.drop_zero, List.take_succ_cons, List.take_zero] at g1
  obtain ⟨s1, hs1, _, hz1⟩ := DataW.trod_int Try.underlying2 g1
  injection hs1 with hs1; subst hs1
  have g2 := hf 2 { name := "Time", type := 2, offset := 2, embedded := false, tag := "", pkgPath := "", byteOffset := 16 } rfl
  dsimp only at g2
  rw [k2, List.getElem?_eq_getElem (show 2 < xs.length by omega)] at g2
  simp only [List.drop_succ_cons, List.drop_zero, List.take_succ_cons, List.take_zero] at g2
  obtain ⟨s2, hs2, _, hz2⟩ := DataW.trod_int Try.underlying2 g2
  injection hs2 with hs2; subst hs2
  have g3 := hf 3 { name := "Copy", type := 4, offset := 3, embedded := false, tag := "", pkgPath := "", byteOffset := 24 } rfl
  dsimp only at g3
  rw [k3, List.getElem?_eq_getElem (show 3 < xs.length by omega)] at g3
  simp only [List.drop_succ_cons, List.drop_zero, List.take_succ_cons, List.take_zero] at g3
  obtain ⟨s3, hs3, _⟩ := DataW.trod_bool Try.underlying4 g3
  injection hs3 with hs3; subst hs3
  have g4 := hf 4 { name := "A", type := 2, offset := 4, embedded := false, tag := "", pkgPath := "", byteOffset := 32 } rfl
  dsimp only at g4
  rw [k2, List.getElem?_eq_getElem (show 4 < xs.length by omega)] at g4
  simp only [List.drop_succ_cons, List.drop_zero, List.take_succ_cons, List.take_zero] at g4
  obtain ⟨s4, hs4, _, hz4⟩ := DataW.trod_int Try.underlying2 g4
  injection hs4 with hs4; subst hs4
  have g5 := hf 5 { name := "B", type := 2, offset := 5, embedded := false, tag := "", pkgPath := "", byteOffset := 40 } rfl
  dsimp only at g5
  rw [k2, List.getElem?_eq_getElem (show 5 < xs.length by omega)] at g5
  simp only [List.drop_succ_cons, List.drop_zero, List.take_succ_cons, List.take_zero] at g5
  obtain ⟨s5, hs5, _, hz5⟩ := DataW.trod_int Try.underlying2 g5
  injection hs5 with hs5; subst hs5
  have g6 := hf 6 { name := "Gap", type := 4, offset := 6, embedded := false, tag := "", pkgPath := "", byteOffset := 48 } rfl
  dsimp only at g6
  rw [k3, List.getElem?_eq_getElem (show 6 < xs.length by omega)] at g6
  simp only [List.drop_succ_cons, List.drop_zero, List.take_succ_cons, List.take_zero] at g6
  obtain ⟨s6, hs6, _⟩ := DataW.trod_bool Try.underlying4 g6
  injection hs6 with hs6; subst hs6
  have g7 := hf 7 { name := "Text", type := 9, offset := 7, embedded := false, tag := "", pkgPath := "", byteOffset := 56 } rfl
  dsimp only at g7
  rw [k4, List.getElem?_eq_getElem (show 7 < xs.length by omega)] at g7
  simp only [List.drop_succ_cons, List.drop_zero, List.take_succ_cons, List.take_zero] at g7
  obtain ⟨s7, hs7, _, hz7⟩ := DataW.trod_string Try.underlying9 g7
  injection hs7 with hs7; subst hs7
  have g8 := hf 8 { name := "Exec", type := 39, offset := 8, embedded := false, tag := "", pkgPath := "", byteOffset := 72 } rfl
  dsimp only at g8
  rw [k5, List.getElem?_eq_getElem (show 8 < xs.length by omega)] at g8
  simp only [List.drop_succ_cons, List.drop_zero, List.take_succ_cons, List.take_zero] at g8
  obtain ⟨y, hy, hyi⟩ := trod_exc g8
  unfold Exc.cells at hy
  simp only [List.cons.injEq, and_true] at hy
  obtain ⟨rfl, rfl, rfl, rfl, rfl, rfl, rfl, rfl, rfl, rfl⟩ := hy
  exact ⟨⟨s0, s1, s2, s3, s4, s5, s6, s7, y⟩, rfl, ⟨by simpa [Lit.wf, IntKind.min, IntKind.max, IntKind.signed, IntKind.bits] using hz0, by simpa [Lit.wf, IntKind.min, IntKind.max, IntKind.signed, IntKind.bits] using hz1, by simpa [Lit.wf, IntKind.min, IntKind.max, IntKind.signed, IntKind.bits] using hz2, by simpa [Lit.wf, IntKind.min, IntKind.max, IntKind.signed, IntKind.bits] using hz4, by simpa [Lit.wf, IntKind.min, IntKind.max, IntKind.signed, IntKind.bits] using hz5, hz7, hyi⟩⟩
end
end Go.Proofs.Ytblkdmbkkimbpaa
