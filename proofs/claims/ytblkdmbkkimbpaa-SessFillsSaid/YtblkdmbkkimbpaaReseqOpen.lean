/-
  Layer 6: items as cells, slices of items, lines; arguments that are items and lines, opened.
-/
import Derived.Test.YtblkdmbkkimbpaaMsgOpen
import Derived.Test.YtblkdmbkkimbpaaMsgBlk
import Derived.Test.YtblkdmbkkimbpaaReseqMath
namespace Go.Proofs.Ytblkdmbkkimbpaa
open Go.ChangeShapes Go.WideShapes Go.RowKit Go.Deep

def Itm.cells (x : Itm) : List Value := .int .i64 x.fr :: .int .i64 x.till :: x.m.arr.toList
def Itm.arr (x : Itm) : Array Value := x.cells.toArray
theorem Itm.cells_len (x : Itm) : x.cells.length = 20 := rfl
theorem Itm.arr_size (x : Itm) : x.arr.size = 20 := rfl
theorem Itm.arr_list (x : Itm) : x.arr.toList = x.cells := rfl
theorem Itm.cells_one (x : Itm) : ∀ u ∈ x.cells, u.oneCell' = true := by
  intro u hu
  unfold Itm.cells at hu
  rcases List.mem_cons.1 hu with rfl | hu
  · rfl
  rcases List.mem_cons.1 hu with rfl | hu
  · rfl
  · have := arr_one x.m
    rw [Array.all_eq_true'] at this
    exact this u (by simpa using hu)
theorem Itm.arr_one (x : Itm) : x.arr.all (·.oneCell') = true := by
  rw [Array.all_eq_true']
  intro u hu
  exact x.cells_one u (by simpa [Itm.arr] using hu)
def icells (l : List Itm) : List Value := l.flatMap Itm.cells
theorem icells_len (l : List Itm) : (icells l).length = l.length * 20 := by
  unfold icells
  induction l with
  | nil => rfl
  | cons x r ih => rw [List.flatMap_cons, List.length_append, ih, List.length_cons, Itm.cells_len]; omega
theorem icells_app (a b : List Itm) : icells (a ++ b) = icells a ++ icells b := by simp [icells]
theorem icells_one (l : List Itm) : ∀ u ∈ icells l, u.oneCell' = true := by
  intro u hu
  obtain ⟨x, _, h⟩ := List.mem_flatMap.1 hu
  exact x.cells_one u h
theorem icells_drop (l : List Itm) (k : Nat) : (icells l).drop (k * 20) = icells (l.drop k) := by
  induction k generalizing l with
  | zero => simp
  | succ k ih =>
    cases l with
    | nil => simp [icells]
    | cons x r =>
      rw [List.drop_succ_cons, ← ih r, show (k + 1) * 20 = 20 + k * 20 by omega, ← List.drop_drop]
      congr 1
theorem icells_take (l : List Itm) (k : Nat) : (icells l).take (k * 20) = icells (l.take k) := by
  induction k generalizing l with
  | zero => simp [icells]
  | succ k ih =>
    cases l with
    | nil => simp [icells]
    | cons x r =>
      rw [List.take_succ_cons, show icells (x :: r) = x.cells ++ icells r from rfl, show icells (x :: r.take k) = x.cells ++ icells (r.take k) from rfl, ← ih r, List.take_append, Itm.cells_len, List.take_of_length_le (by rw [Itm.cells_len]; omega), show (k + 1) * 20 - 20 = k * 20 by omega]
theorem icells_get {l : List Itm} {k : Nat} (hk : k < l.length) (j : Nat) (v : Value) (hv : l[k].cells[j]? = some v) : (icells l)[k * 20 + j]? = some v := by
  have hj : j < 20 := by
    have := (List.getElem?_eq_some_iff.1 hv).1
    rwa [Itm.cells_len] at this
  have h1 : (icells l)[k * 20 + j]? = ((icells l).drop (k * 20))[j]? := by rw [List.getElem?_drop]
  rw [h1, icells_drop, List.drop_eq_getElem_cons hk, show icells (l[k] :: l.drop (k + 1)) = l[k].cells ++ icells (l.drop (k + 1)) from rfl, List.getElem?_append_left (by rw [Itm.cells_len]; exact hj)]
  exact hv
theorem Row.itm {w : World} {A : Option Addr} {l : List Itm} (h : Row w A (icells l)) {k : Nat} (hk : k < l.length) :
    ∃ b off, A = some ⟨b, off, none⟩ ∧ w.rangeAt b (off + k * 20) l[k].cells ∧ w.cell? ⟨b, off + k * 20, none⟩ = some (.int .i64 l[k].fr) ∧ w.cell? ⟨b, off + k * 20 + 1, none⟩ = some (.int .i64 l[k].till) := by
  rcases h with h | ⟨b, off, ha, hc⟩
  · have := congrArg List.length h; rw [icells_len, List.length_nil] at this; omega
  · have hr : w.rangeAt b (off + k * 20) l[k].cells := fun j v hv => by rw [Nat.add_assoc]; exact hc _ _ (icells_get hk j v hv)
    exact ⟨b, off, ha, hr, hr 0 _ rfl, hr 1 _ rfl⟩
theorem Sl.itmDrop {w : World} {A : Option Addr} {n c : Nat} {l : List Itm} (h : Sl w A n c 20 (icells l)) (hl : l.length = n) {k : Nat} (hk : k ≤ n) :
    Sl w (if c = k then A else A.map (fun x => x.add (k * 20))) (n - k) (c - k) 20 (icells (l.drop k)) := by
  have hle := h.le
  refine ⟨by rw [icells_len, List.length_drop, hl], by omega, by have := h.cap; omega, fun e => ?_, ?_⟩
  · have : A = none := by
      split at e
      · exact e
      · cases A <;> simp_all
    have := h.nil this
    omega
  · rw [← icells_drop]
    split
    · rename_i he
      have : k = n := by omega
      rw [List.drop_eq_nil_of_le (by rw [icells_len, hl]; omega)]
      exact .inl rfl
    · exact h.row.drop _
structure Itm.In (x : Itm) : Prop where
  fr : -9223372036854775808 ≤ x.fr ∧ x.fr ≤ 9223372036854775807
  till : -9223372036854775808 ≤ x.till ∧ x.till ≤ 9223372036854775807
  m : x.m.In
/-- A line's cells. -/
def lnArr (n : Int) (A : Option Addr) (len c : Nat) : Array Value := #[.int .i64 n, .slice A len c]
theorem infoI : (Try.prog.info? 58).map (·.size) = some 20 := by kernel_rfl
theorem infoL : (Try.prog.info? 27).map (·.size) = some 2 := by kernel_rfl
section
variable {H : Type} {enc : TypeId × Value → H} {w : World} {base : Nat} {spare : Nat → Bool} {held : Bool}
theorem trod_itm {fuel : Nat} {cs : List Value} {x : DataW H × List MemPlace} (h : DataW.trod enc Try.prog w base spare held fuel 58 cs = some x) : ∃ y : Itm, cs = y.cells ∧ y.In := by
  obtain ⟨xs, n, _, _, hl, hx, hf⟩ := DataW.trod_struct Try.underlying58 h
  rw [show Try.prog.cellsOf 58 = 20 by kernel_rfl] at hl
  have hx3 : xs.length = 3 := hx
  have k2 : Try.prog.cellsOf 2 = 1 := by kernel_rfl
  have k9 : Try.prog.cellsOf 41 = 18 := by kernel_rfl
  obtain ⟨a, r1, rfl, hr1⟩ := cons_of (n := 19) hl
  obtain ⟨b, r, rfl, hr⟩ := cons_of (n := 18) hr1
  have g0 := hf 0 { name := "From", type := 2, offset := 0, embedded := false, tag := "", pkgPath := "", byteOffset := 0 } rfl
  dsimp only at g0
  rw [k2, List.getElem?_eq_getElem (show 0 < xs.length by omega)] at g0
  simp only [List.drop_zero, List.take_succ_cons, List.take_zero] at g0
  obtain ⟨s0, hs0, _, hz0⟩ := DataW.trod_int Try.underlying2 g0
  injection hs0 with hs0; subst hs0
  have g1 := hf 1 { name := "To", type := 2, offset := 1, embedded := false, tag := "", pkgPath := "", byteOffset := 8 } rfl
  dsimp only at g1
  rw [k2, List.getElem?_eq_getElem (show 1 < xs.length by omega)] at g1
  simp only [List.drop_succ_cons, List.drop_zero, List.take_succ_cons, List.take_zero] at g1
  obtain ⟨s1, hs1, _, hz1⟩ := DataW.trod_int Try.underlying2 g1
  injection hs1 with hs1; subst hs1
  have g2 := hf 2 { name := "M", type := 41, offset := 2, embedded := false, tag := "", pkgPath := "", byteOffset := 16 } rfl
  dsimp only at g2
  rw [k9, List.getElem?_eq_getElem (show 2 < xs.length by omega)] at g2
  simp only [List.drop_succ_cons, List.drop_zero] at g2
  rw [List.take_of_length_le (by omega)] at g2
  obtain ⟨m, hm, im⟩ := open_msg (cs := r.toArray) (by simpa using g2)
  refine ⟨⟨s0, s1, m⟩, ?_, ⟨by simpa [Lit.wf, IntKind.min, IntKind.max, IntKind.signed, IntKind.bits] using hz0, by simpa [Lit.wf, IntKind.min, IntKind.max, IntKind.signed, IntKind.bits] using hz1, im⟩⟩
  unfold Itm.cells
  rw [← hm]
theorem open_itms {fuel : Nat} {A : Option Addr} {n c : Nat} {x : DataW H × List MemPlace} (h : DataW.trod enc Try.prog w base spare held fuel 25 [.slice A n c] = some x) :
    ∃ l : List Itm, l.length = n ∧ Sl w A n c 20 (icells l) ∧ ∀ y ∈ l, y.In :=
  open_sl Try.underlying25 (by kernel_rfl) (by omega) (fun _ _ _ hx => trod_itm hx) (fun _ => rfl) h
theorem open_line {fuel : Nat} {cs : Array Value} {x : DataW H × List MemPlace} (h : DataW.trod enc Try.prog w base spare held fuel 27 cs.toList = some x) :
    ∃ (k : Int) (A : Option Addr) (n c : Nat) (l : List Itm), cs = lnArr k A n c ∧ (-9223372036854775808 ≤ k ∧ k ≤ 9223372036854775807) ∧ l.length = n ∧ Sl w A n c 20 (icells l) ∧ ∀ y ∈ l, y.In := by
  obtain ⟨xs, n, _, _, hl, hx, hf⟩ := DataW.trod_struct Try.underlying27 h
  rw [show Try.prog.cellsOf 27 = 2 by kernel_rfl] at hl
  have hx3 : xs.length = 2 := hx
  have k2 : Try.prog.cellsOf 2 = 1 := by kernel_rfl
  have k9 : Try.prog.cellsOf 25 = 1 := by kernel_rfl
  obtain ⟨l⟩ := cs
  simp only at hl hf
  obtain ⟨a, r1, rfl, hr1⟩ := cons_of (n := 1) hl
  obtain ⟨b, r2, rfl, hr2⟩ := cons_of (n := 0) hr1
  obtain rfl := nil_of hr2
  have g0 := hf 0 { name := "Next", type := 2, offset := 0, embedded := false, tag := "", pkgPath := "", byteOffset := 0 } rfl
  dsimp only at g0
  rw [k2, List.getElem?_eq_getElem (show 0 < xs.length by omega)] at g0
  simp only [List.drop_zero, List.take_succ_cons, List.take_zero] at g0
  obtain ⟨s0, hs0, _, hz0⟩ := DataW.trod_int Try.underlying2 g0
  injection hs0 with hs0; subst hs0
  have g1 := hf 1 { name := "Held", type := 25, offset := 1, embedded := false, tag := "", pkgPath := "", byteOffset := 8 } rfl
  dsimp only at g1
  rw [k9, List.getElem?_eq_getElem (show 1 < xs.length by omega)] at g1
  simp only [List.drop_succ_cons, List.drop_zero, List.take_succ_cons, List.take_zero] at g1
  have hval : ∃ A n c, b = .slice A n c := by
    have hu := Try.underlying25
    rcases n with _ | n
    · simp [DataW.trod] at g1
    · unfold DataW.trod at g1
      rw [hu] at g1
      cases b <;> simp at g1
      exact ⟨_, _, _, rfl⟩
  obtain ⟨A, len, c, rfl⟩ := hval
  obtain ⟨l, h1, h2, h3⟩ := open_itms g1
  exact ⟨s0, A, len, c, l, rfl, by simpa [Lit.wf, IntKind.min, IntKind.max, IntKind.signed, IntKind.bits] using hz0, h1, h2, h3⟩
end
end Go.Proofs.Ytblkdmbkkimbpaa
