/-
  Layer 2: the document's Same, at two slices that read as one list.
-/
import Derived.Test.YtbkihakccojknaaDoorFieldRefParse
import Derived.Laws.StructEq
namespace Go.Proofs.YtbkihakccojknaaDoor
open Go.RowKit

theorem fieldsF : Tryd.prog.fieldsOf 39 = #[{ name := "Tag", type := 3, offset := 0, embedded := false, tag := "", pkgPath := "", byteOffset := 0 }, { name := "Value", type := 9, offset := 1, embedded := false, tag := "", pkgPath := "", byteOffset := 8 }] := by kernel_rfl
theorem run_neqF (t : Int) (s : ByteArray) (W : World) : (binOp .neq 39 (.agg #[.int .i64 t, .string s]) (.agg #[.int .i64 t, .string s])).run Tryd.prog W = .ok (.bool false) W := by
  rw [run_neq_struct, run_equalIn_agg W 9999 39 _ _ (by kernel_rfl) (by kernel_rfl), fieldsF]
  have u1 := Tryd.underlying3
  have u2 := Tryd.underlying9
  simp [Op.eqFields, go_sem, u1, u2]
set_option maxHeartbeats 1000000 in
theorem ref_Same (A1 A2 : Option Addr) (c1 c2 : Nat) (l : List Fld) (w : World) (h1 : Row w A1 (fcells l)) (h2 : Row w A2 (fcells l)) (hl : l.length ≤ 1000000) :
    Calls Tryd.prog 19 #[.slice A1 l.length c1, .slice A2 l.length c2] w fun e w' => e = .returned (.bool true) ∧ Below w.heap.size w w' := by
  have H1 := Lib.hid h1; clear h1
  have H2 := Lib.hid h2; clear h2
  have hne := run_neqF
  have hm : Tryd.prog.eqGuardType Tryd.prog.depth 39 = false := by kernel_rfl
  go_enter Tryd.func19, Tryd.ntmps19
  go_wp2
  go_loopw [5] (fun i wr => ∃ k : Nat, k ≤ l.length ∧ i = .int .i64 k ∧ Below w.heap.size w wr) (fun i _ => l.length - (intOf i).toNat)
  case atStart => exact ⟨0, Nat.zero_le _, rfl, Below.refl _ _⟩
  case round =>
    obtain ⟨k, hk, rfl, hb⟩ := hrel
    by_cases hlt : k < l.length
    · obtain ⟨b1, o1, rfl, h10, h11⟩ := (H1.out.on hb).fld hlt
      obtain ⟨b2, o2, rfl, h20, h21⟩ := (H2.out.on hb).fld hlt
      generalize l[k].tag = t at *
      generalize l[k].val = s at *
      have hki : (0 : Int) ≤ (k : Int) := by omega
      have hkl : (k : Int) < (l.length : Int) := by omega
      go_wp2
      go_quiet (fail)
      go_wp2
      go_roundw
      case rel => exact ⟨k + 1, by omega, by go_num, ⟨hb.os, hb.tape, hb.output, hb.size, hb.block⟩⟩
      case measure => simp [intOf]; omega
    · obtain rfl : k = l.length := by omega
      go_wp2
      go_ret
      exact ⟨rfl, hb⟩
end Go.Proofs.YtbkihakccojknaaDoor
