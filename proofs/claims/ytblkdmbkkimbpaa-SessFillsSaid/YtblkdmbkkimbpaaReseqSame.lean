/-
  Layer 6: an item is the same as itself; the document's own way of comparing lines: its contracts, where the two are the same; Gap.
-/
import Derived.Test.YtblkdmbkkimbpaaReseqCome
import Derived.Test.YtblkdmbkkimbpaaMsgEq
import Derived.Test.YtblkdmbkkimbpaaMsgQuiet
namespace Go.Proofs.Ytblkdmbkkimbpaa
open Go.RowKit

theorem fieldsI : Try.prog.fieldsOf 58 = #[{ name := "From", type := 2, offset := 0, embedded := false, tag := "", pkgPath := "", byteOffset := 0 }, { name := "To", type := 2, offset := 1, embedded := false, tag := "", pkgPath := "", byteOffset := 8 }, { name := "M", type := 41, offset := 2, embedded := false, tag := "", pkgPath := "", byteOffset := 16 }] := by kernel_rfl
theorem sizeI1 (W : World) : (sizeOf 2).run Try.prog W = .ok 1 W := by kernel_rfl
set_option maxRecDepth 100000 in
set_option maxHeartbeats 1000000 in
theorem eqI (d : Nat) (y : Itm) (W : World) : (Op.equalIn (d + 4) 58 (.agg y.arr) (.agg y.arr)).run Try.prog W = .ok true W := by
  obtain ⟨f, t, ⟨a1, a2, a3, a4, a5, a6, a7, a8, ⟨c1, c2, c3, c4, c5, c6, c7, c8, c9, c10⟩⟩⟩ := y
  have hm := eqM d ⟨a1, a2, a3, a4, a5, a6, a7, a8, ⟨c1, c2, c3, c4, c5, c6, c7, c8, c9, c10⟩⟩ ⟨a1, a2, a3, a4, a5, a6, a7, a8, ⟨c1, c2, c3, c4, c5, c6, c7, c8, c9, c10⟩⟩ W
  rw [decide_eq_true rfl] at hm
  unfold Mg.val at hm
  dsimp only at hm
  unfold Itm.arr Itm.cells Mg.arr
  dsimp only
  rw [run_equalIn_agg W (d + 3) 58 _ _ (by kernel_rfl) (by kernel_rfl), fieldsI]
  have u1 := Try.underlying2
  have u2 := Try.underlying41
  simp [Op.eqFields, go_sem, u1, u2]
theorem neqI (y : Itm) (W : World) : (binOp .neq 58 (.agg y.arr) (.agg y.arr)).run Try.prog W = .ok (.bool false) W := by
  have h := eqI 9996 y W
  rw [run_neq_struct, h]; rfl
theorem guard_neI (x y : Operand) (m n : Itm) (W : World) : (eqGuard .neq 58 x y (.agg m.arr) (.agg n.arr)).run Try.prog W = .ok () W := by
  unfold eqGuard
  simp [go_sem]
theorem range_dn {W : World} {b o : Nat} {cs : List Value} (h : W.rangeAt b o cs) (q : Nat) : (W.drewN q).rangeAt b o cs := h
theorem wpQ_itm {ops : Array Oper} {C : World → Prop} {Q : Act → Prop} {rest : List Oper} {o : Oper} {a : Act} {g off : Nat} (hw : Region.wanted o (yielded ops a.tmps) = true) (x : Operand) (ho : o.op = .load 58 x) (hx : a.eval x = .pointer (some ⟨g, off, none⟩)) (y : Itm) (hC : ∀ w, C w → w.rangeAt g off y.cells)
    (hk : wpQuiet Try.prog ops C Q rest (a.put o.dst (.agg y.arr))) : wpQuiet Try.prog ops C Q (o :: rest) a :=
  wpQ_mid y.cells hw hC 58 x ho hx _ Try.underlying58 rfl infoI hk
theorem wpQ_neI {ops : Array Oper} {C : World → Prop} {Q : Act → Prop} {rest : List Oper} {o : Oper} {a : Act} (hw : Region.wanted o (yielded ops a.tmps) = true) (x y : Operand) (ho : o.op = .binOp .neq 58 x y 58) (m : Itm) (hx : a.eval x = .agg m.arr) (hy : a.eval y = .agg m.arr)
    (hk : wpQuiet Try.prog ops C Q rest (a.put o.dst (.bool false))) : wpQuiet Try.prog ops C Q (o :: rest) a :=
  wpQ_val hw _ (fun w _ => by unfold execOp; simp only [ho, hx, hy, Sem.run_bind, guard_neI, neqI, Result.andThen_ok, Sem.run_pure]) hk
/-- What is missing ahead of what is held. -/
def gapR (l : Ln) : Int × Int × Bool :=
  match l.rightB, l.held with
  | true, y :: _ => (l.next, y.fr - 1, true)
  | _, _ => (0, 0, false)
set_option maxRecDepth 100000 in
theorem own_Gap (k0 : Int) (A : Option Addr) (n c : Nat) (l : List Itm) (hl : l.length = n) (W : World) (h : Sl W A n c 20 (icells l)) :
    Calls Try.prog 32 #[.agg #[.int .i64 k0, .slice A n c]] W fun e W' => e = .returned (.tuple #[.int .i64 (gapR ⟨k0, l⟩).1, .int .i64 (gapR ⟨k0, l⟩).2.1, .bool (gapR ⟨k0, l⟩).2.2]) ∧ Below W.heap.size W W' := by
  have HI := Lib.hid ((RI.start W).add 27 #[.int .i64 k0, .slice A n c])
  have HRi := Lib.hid (own_Right k0 A n c l hl _ (h.on HI.out.below))
  have HS := Lib.hid h
  have hcap : c ≤ 9223372036854775807 := by have := h.cap; unfold maxLen at this; omega
  have hnc := h.le
  have Hl := Lib.hid hl
  clear h hl
  generalize hG : gapR ⟨k0, l⟩ = G at *
  generalize hR : Ln.rightB ⟨k0, l⟩ = R at *
  have HG := Lib.hid hG
  have HR := Lib.hid hR
  clear hG hR
  have hL1 : ∀ (g1 g2 : Int) (g3 : Bool), G = (g1, g2, g3) → Hid (Ending.returned (.tuple #[.int .i64 g1, .int .i64 g2, .bool g3]) = Ending.returned (.tuple #[.int .i64 G.1, .int .i64 G.2.1, .bool G.2.2])) := fun g1 g2 g3 h => Lib.hid (by rw [h])
  rcases R with _ | _
  · have HF := hL1 0 0 false (by rw [← HG.out]; unfold gapR; rw [HR.out])
    clear hL1
    go_enter Try.func32, Try.ntmps32
    go_wp2_with (first | (refine wpList_load_row rfl 27 (.tmp 1) rfl _ rfl 27 _ (0, 0) _ HI.out.bx Try.underlying27 rfl infoL ?_) | (go_at_call 24; refine HRi.out.mono ?_; rintro e w1 ⟨rfl, hb1⟩; have HI1 := Lib.hid (HI.out.on hb1)))
    go_ret3
    exact ⟨HF.out, HI1.out.below⟩
  · have hrt := right_len HR.out
    rw [Hl.out] at hrt
    by_cases h0 : n = 0
    · subst h0
      obtain rfl := List.eq_nil_of_length_eq_zero Hl.out
      have HF := hL1 0 0 false (by rw [← HG.out]; unfold gapR; rw [HR.out])
      clear hL1 hrt
      go_enter Try.func32, Try.ntmps32
      go_wp2_with (first | (refine wpList_load_row rfl 27 (.tmp 1) rfl _ rfl 27 _ (0, 0) _ HI.out.bx Try.underlying27 rfl infoL ?_) | (go_at_call 24; refine HRi.out.mono ?_; rintro e w1 ⟨rfl, hb1⟩; have HI1 := Lib.hid (HI.out.on hb1); have hf0 := (HI1.out.cell 0).trans (show _ = some (.int .i64 k0) from rfl); have hf1 := (HI1.out.cell 1).trans (show _ = some (.slice A 0 c) from rfl)))
      go_ret3
      exact ⟨HF.out, HI1.out.below⟩
    · have hkl : 0 < l.length := by rw [Hl.out]; omega
      obtain ⟨b, off, rfl, -, h1, -⟩ := HS.out.row.itm hkl
      obtain ⟨y, r, rfl⟩ : ∃ y r, l = y :: r := by
        cases l with
        | nil => simp at hkl
        | cons y r => exact ⟨y, r, rfl⟩
      have HF := hL1 k0 (y.fr - 1) true (by rw [← HG.out]; unfold gapR; rw [HR.out])
      have hy : 1 ≤ y.fr ∧ y.fr ≤ 2199023255552 := by
        have ha := (rightB_iff.1 HR.out).2.2.1
        rw [List.all_cons, Bool.and_eq_true] at ha
        have := mayB_iff.1 ha.1
        omega
      simp only [List.getElem_cons_zero, Nat.zero_mul, Nat.add_zero] at h1
      generalize y.fr = f at *
      have HW := Lib.hid h1
      have hn0 : ((n : Int) == 0) = false := by simp; omega
      have hpos : 0 < n := by omega
      have hwr : IntKind.i64.wrap (f - 1) = f - 1 := by rw [IntKind.wrap_i64]; omega
      clear hL1 hrt h1 h0 hkl
      go_enter Try.func32, Try.ntmps32
      go_wp2_with (first | (refine wpList_load_row rfl 27 (.tmp 1) rfl _ rfl 27 _ (0, 0) _ HI.out.bx Try.underlying27 rfl infoL ?_) | (go_at_call 24; refine HRi.out.mono ?_; rintro e w1 ⟨rfl, hb1⟩; have HI1 := Lib.hid (HI.out.on hb1); have hf0 := (HI1.out.cell 0).trans (show _ = some (.int .i64 k0) from rfl); have hf1 := (HI1.out.cell 1).trans (show _ = some (.slice (some ⟨b, off, none⟩) n c) from rfl); have hy0 := cell_on HI1.out.below HW.out))
      go_quiet (fail)
      go_wp2
      go_ret3
      exact ⟨HF.out, below_dn HI1.out.below _⟩
end Go.Proofs.Ytblkdmbkkimbpaa
