/-
  Layer 6: an item is the same as itself; the document's own way of comparing lines: its contracts, where the two are the same; Gap.
-/
import Derived.Test.YtagehacnpdlpnaaReseqCome
import Derived.Test.YtagehacnpdlpnaaMsgEq
import Derived.Test.YtagehacnpdlpnaaMsgQuiet
namespace Go.Proofs.Ytagehacnpdlpnaa
open Go.RowKit

theorem fieldsI : Try.prog.fieldsOf 35 = #[{ name := "From", type := 2, offset := 0, embedded := false, tag := "", pkgPath := "", byteOffset := 0 }, { name := "To", type := 2, offset := 1, embedded := false, tag := "", pkgPath := "", byteOffset := 8 }, { name := "M", type := 33, offset := 2, embedded := false, tag := "", pkgPath := "", byteOffset := 16 }] := by kernel_rfl
theorem sizeI1 (W : World) : (sizeOf 2).run Try.prog W = .ok 1 W := by kernel_rfl
set_option maxRecDepth 100000 in
set_option maxHeartbeats 1000000 in
theorem eqI (d : Nat) (y : Itm) (W : World) : (Op.equalIn (d + 4) 35 (.agg y.arr) (.agg y.arr)).run Try.prog W = .ok true W := by
  obtain ⟨f, t, ⟨a1, a2, a3, a4, a5, a6, a7, a8, ⟨c1, c2, c3, c4, c5, c6, c7, c8, c9, c10⟩⟩⟩ := y
  have hm := eqM d ⟨a1, a2, a3, a4, a5, a6, a7, a8, ⟨c1, c2, c3, c4, c5, c6, c7, c8, c9, c10⟩⟩ ⟨a1, a2, a3, a4, a5, a6, a7, a8, ⟨c1, c2, c3, c4, c5, c6, c7, c8, c9, c10⟩⟩ W
  rw [decide_eq_true rfl] at hm
  unfold Mg.val at hm
  dsimp only at hm
  unfold Itm.arr Itm.cells Mg.arr
  dsimp only
  rw [run_equalIn_agg W (d + 3) 35 _ _ (by kernel_rfl) (by kernel_rfl), fieldsI]
  have u1 := Try.underlying2
  have u2 := Try.underlying33
  simp [Op.eqFields, go_sem, u1, u2]
theorem neqI (y : Itm) (W : World) : (binOp .neq 35 (.agg y.arr) (.agg y.arr)).run Try.prog W = .ok (.bool false) W := by
  have h := eqI 9996 y W
  rw [run_neq_struct, h]; rfl
theorem guard_neI (x y : Operand) (m n : Itm) (W : World) : (eqGuard .neq 35 x y (.agg m.arr) (.agg n.arr)).run Try.prog W = .ok () W := by
  unfold eqGuard
  simp [go_sem]
theorem range_dn {W : World} {b o : Nat} {cs : List Value} (h : W.rangeAt b o cs) (q : Nat) : (W.drewN q).rangeAt b o cs := h
theorem wpQ_itm {ops : Array Oper} {C : World → Prop} {Q : Act → Prop} {rest : List Oper} {o : Oper} {a : Act} {g off : Nat} (hw : Region.wanted o (yielded ops a.tmps) = true) (x : Operand) (ho : o.op = .load 35 x) (hx : a.eval x = .pointer (some ⟨g, off, none⟩)) (y : Itm) (hC : ∀ w, C w → w.rangeAt g off y.cells)
    (hk : wpQuiet Try.prog ops C Q rest (a.put o.dst (.agg y.arr))) : wpQuiet Try.prog ops C Q (o :: rest) a :=
  wpQ_mid y.cells hw hC 35 x ho hx _ Try.underlying35 rfl infoI hk
theorem wpQ_neI {ops : Array Oper} {C : World → Prop} {Q : Act → Prop} {rest : List Oper} {o : Oper} {a : Act} (hw : Region.wanted o (yielded ops a.tmps) = true) (x y : Operand) (ho : o.op = .binOp .neq 35 x y 35) (m : Itm) (hx : a.eval x = .agg m.arr) (hy : a.eval y = .agg m.arr)
    (hk : wpQuiet Try.prog ops C Q rest (a.put o.dst (.bool false))) : wpQuiet Try.prog ops C Q (o :: rest) a :=
  wpQ_val hw _ (fun w _ => by unfold execOp; simp only [ho, hx, hy, Sem.run_bind, guard_neI, neqI, Result.andThen_ok, Sem.run_pure]) hk
set_option maxRecDepth 100000 in
theorem ref_Items (A : Option Addr) (n c : Nat) (A' : Option Addr) (c' : Nat) (l : List Itm) (hl : l.length = n) (W : World) (h : Sl W A n c 20 (icells l)) (h' : Sl W A' n c' 20 (icells l)) :
    Calls Try.prog 16 #[.slice A n c, .slice A' n c'] W fun e W' => e = .returned (.bool true) ∧ Below W.heap.size W W' := by
  have HS := Lib.hid h
  have HT := Lib.hid h'
  have hcap : c ≤ 9223372036854775807 := by have := h.cap; unfold maxLen at this; omega
  have hcap' : c' ≤ 9223372036854775807 := by have := h'.cap; unfold maxLen at this; omega
  have hnc := h.le
  have hnc' := h'.le
  have Hl := Lib.hid hl
  clear h h' hl
  go_enter Try.func16, Try.ntmps16
  go_wp2
  go_loopw [5] (fun s5 wr => ∃ k : Nat, k ≤ n ∧ s5 = .int .i64 k ∧ Hid (Below W.heap.size W wr)) (fun s5 _ => n - (intOf s5).toNat)
  case atStart => exact ⟨0, Nat.zero_le _, rfl, Lib.hid (Below.refl _ _)⟩
  case round =>
    obtain ⟨k, hk, rfl, HB⟩ := hrel
    by_cases hlt : k < n
    · have hkl : k < l.length := by rw [Hl.out]; exact hlt
      obtain ⟨b, off, rfl, hra, -, -⟩ := (HS.out.on HB.out).row.itm hkl
      obtain ⟨b', off', rfl, hra', -, -⟩ := (HT.out.on HB.out).row.itm hkl
      have HRa := Lib.hid hra
      have HRb := Lib.hid hra'
      clear hra hra'
      generalize l[k] = y at *
      go_wp2_with fail
      refine wp_region_quiet_lit (by kernel_rfl) (by kernel_rfl) ?_
      quiet_step (fail)
      quiet_step (fail)
      quiet_step (fail)
      refine wpQ_itm rfl (.tmp 19) rfl rfl y (fun w h => by obtain ⟨q, rfl⟩ := h; exact range_dn HRa.out q) ?_
      quiet_step (fail)
      quiet_step (fail)
      quiet_step (fail)
      refine wpQ_itm rfl (.tmp 23) rfl rfl y (fun w h => by obtain ⟨q, rfl⟩ := h; exact range_dn HRb.out q) ?_
      refine wpQ_neI rfl (.tmp 20) (.tmp 24) rfl y rfl rfl ?_
      refine wpQuiet_nil ?_
      intro _ hw'
      obtain ⟨nq, hw''⟩ := hw'
      subst hw''
      go_wp2
      go_roundw
      case rel => exact ⟨k + 1, by omega, by go_num, Lib.hid (below_dn HB.out _)⟩
      case measure => simp [intOf]; omega
    · obtain rfl : k = n := by omega
      go_wp2
      go_ret
      exact ⟨rfl, HB.out⟩
set_option maxRecDepth 100000 in
theorem ref_Same6 (k0 : Int) (A : Option Addr) (n c : Nat) (A' : Option Addr) (c' : Nat) (l : List Itm) (hl : l.length = n) (W : World) (h : Sl W A n c 20 (icells l)) (h' : Sl W A' n c' 20 (icells l)) :
    Calls Try.prog 10 #[.agg #[.int .i64 k0, .slice A n c], .agg #[.int .i64 k0, .slice A' n c']] W fun e W' => e = .returned (.bool true) ∧ Below W.heap.size W W' := by
  have HI := Lib.hid (((RI.start W).add 26 #[.int .i64 k0, .slice A n c]).addAt 26 #[.int .i64 k0, .slice A' n c'] (W.heap.size + 1) (by simp))
  have HIt := Lib.hid (ref_Items A n c A' c' l hl _ (h.on HI.out.below) (h'.on HI.out.below))
  clear h h' hl
  go_enter Try.func10, Try.ntmps10
  go_wp2_with (go_at_call 16; refine HIt.out.mono ?_; rintro e w1 ⟨rfl, hb1⟩)
  go_ret
  exact ⟨rfl, HI.out.below.trans (hb1.mono HI.out.below.size)⟩
/-- What is missing ahead of what is held. -/
def gapR (l : Ln) : Int × Int × Bool :=
  match l.rightB, l.held with
  | true, y :: _ => (l.next, y.fr - 1, true)
  | _, _ => (0, 0, false)
set_option maxRecDepth 100000 in
theorem own_Gap (k0 : Int) (A : Option Addr) (n c : Nat) (l : List Itm) (hl : l.length = n) (W : World) (h : Sl W A n c 20 (icells l)) :
    Calls Try.prog 11 #[.agg #[.int .i64 k0, .slice A n c]] W fun e W' => e = .returned (.tuple #[.int .i64 (gapR ⟨k0, l⟩).1, .int .i64 (gapR ⟨k0, l⟩).2.1, .bool (gapR ⟨k0, l⟩).2.2]) ∧ Below W.heap.size W W' := by
  have HI := Lib.hid ((RI.start W).add 26 #[.int .i64 k0, .slice A n c])
  have HRi := Lib.hid (own_Right k0 A n c l hl _ (h.on HI.out.below))
  have HS := Lib.hid h
  have hcap : c ≤ 9223372036854775807 := by have := h.cap; unfold maxLen at this; omega
  have hnc := h.le
  have Hl := Lib.hid hl
  clear h hl
  generalize hG : gapR ⟨k0, l⟩ = G at *
  generalize hR : Ln.rightB ⟨k0, l⟩ = R at *
  have HG := Lib.hid hG
  have HR := Lib.hid hR
  clear hG hR
  have hL1 : ∀ (g1 g2 : Int) (g3 : Bool), G = (g1, g2, g3) → Hid (Ending.returned (.tuple #[.int .i64 g1, .int .i64 g2, .bool g3]) = Ending.returned (.tuple #[.int .i64 G.1, .int .i64 G.2.1, .bool G.2.2])) := fun g1 g2 g3 h => Lib.hid (by rw [h])
  rcases R with _ | _
  · have HF := hL1 0 0 false (by rw [← HG.out]; unfold gapR; rw [HR.out])
    clear hL1
    go_enter Try.func11, Try.ntmps11
    go_wp2_with (first | (refine wpList_load_row rfl 26 (.tmp 1) rfl _ rfl 26 _ (0, 0) _ HI.out.bx Try.underlying26 rfl infoL ?_) | (go_at_call 8; refine HRi.out.mono ?_; rintro e w1 ⟨rfl, hb1⟩; have HI1 := Lib.hid (HI.out.on hb1)))
    go_ret3
    exact ⟨HF.out, HI1.out.below⟩
  · have hrt := right_len HR.out
    rw [Hl.out] at hrt
    by_cases h0 : n = 0
    · subst h0
      obtain rfl := List.eq_nil_of_length_eq_zero Hl.out
      have HF := hL1 0 0 false (by rw [← HG.out]; unfold gapR; rw [HR.out])
      clear hL1 hrt
      go_enter Try.func11, Try.ntmps11
      go_wp2_with (first | (refine wpList_load_row rfl 26 (.tmp 1) rfl _ rfl 26 _ (0, 0) _ HI.out.bx Try.underlying26 rfl infoL ?_) | (go_at_call 8; refine HRi.out.mono ?_; rintro e w1 ⟨rfl, hb1⟩; have HI1 := Lib.hid (HI.out.on hb1); have hf0 := (HI1.out.cell 0).trans (show _ = some (.int .i64 k0) from rfl); have hf1 := (HI1.out.cell 1).trans (show _ = some (.slice A 0 c) from rfl)))
      go_ret3
      exact ⟨HF.out, HI1.out.below⟩
    · have hkl : 0 < l.length := by rw [Hl.out]; omega
      obtain ⟨b, off, rfl, -, h1, -⟩ := HS.out.row.itm hkl
      obtain ⟨y, r, rfl⟩ : ∃ y r, l = y :: r := by
        cases l with
        | nil => simp at hkl
        | cons y r => exact ⟨y, r, rfl⟩
      have HF := hL1 k0 (y.fr - 1) true (by rw [← HG.out]; unfold gapR; rw [HR.out])
      have hy : 1 ≤ y.fr ∧ y.fr ≤ 2199023255552 := by
        have ha := (rightB_iff.1 HR.out).2.2.1
        rw [List.all_cons, Bool.and_eq_true] at ha
        have := mayB_iff.1 ha.1
        omega
      simp only [List.getElem_cons_zero, Nat.zero_mul, Nat.add_zero] at h1
      generalize y.fr = f at *
      have HW := Lib.hid h1
      have hn0 : ((n : Int) == 0) = false := by simp; omega
      have hpos : 0 < n := by omega
      have hwr : IntKind.i64.wrap (f - 1) = f - 1 := by rw [IntKind.wrap_i64]; omega
      clear hL1 hrt h1 h0 hkl
      go_enter Try.func11, Try.ntmps11
      go_wp2_with (first | (refine wpList_load_row rfl 26 (.tmp 1) rfl _ rfl 26 _ (0, 0) _ HI.out.bx Try.underlying26 rfl infoL ?_) | (go_at_call 8; refine HRi.out.mono ?_; rintro e w1 ⟨rfl, hb1⟩; have HI1 := Lib.hid (HI.out.on hb1); have hf0 := (HI1.out.cell 0).trans (show _ = some (.int .i64 k0) from rfl); have hf1 := (HI1.out.cell 1).trans (show _ = some (.slice (some ⟨b, off, none⟩) n c) from rfl); have hy0 := cell_on HI1.out.below HW.out))
      go_quiet (fail)
      go_wp2
      go_ret3
      exact ⟨HF.out, below_dn HI1.out.below _⟩
end Go.Proofs.Ytagehacnpdlpnaa
