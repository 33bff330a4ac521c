/-
  Layer 8: the document's own way: sums, records: its contracts.
-/
import Derived.Test.YtaimciblkimgkaaProg
import Derived.Test.YtaimciblkimgkaaCrcRec
import Derived.Test.YtaimciblkimgkaaMem
import Derived.Laws.BitsAllLaws
import Derived.WalkKit
import Derived.WalkSmall
import Derived.WalkSpells
import Derived.IntWalk
import Derived.BigQuiet
import Derived.Handy
import Derived.Deep.QuietTactic
import Derived.Deep.DeepCutAuto
import Derived.Deep.DeepMust
namespace Go.Proofs.Ytaimciblkimgkaa
open Go.RowKit

theorem iter_odd (n : Nat) (h : n % 2 = 1) : crcBit n = n / 2 ^^^ 3988292384 := if_pos h
theorem iter_even (n : Nat) (h : ¬ n % 2 = 1) : crcBit n = n / 2 := if_neg h
/-- k steps. -/
def crcIt : Nat → Nat → Nat
  | 0, n => n
  | k + 1, n => crcBit (crcIt k n)
theorem crcIt_lt {n : Nat} (h : n < 4294967296) : ∀ k, crcIt k n < 4294967296
  | 0 => h
  | k + 1 => crcBit_lt (crcIt_lt h k)
theorem crcIt_8 (n : Nat) : crcIt 8 n = crc8 n := rfl
theorem crcRun_take {l : List UInt8} {k : Nat} (h : k < l.length) (n : Nat) : crcRun n (l.take (k + 1)) = crcByte (crcRun n (l.take k)) l[k] := by
  rw [List.take_succ_eq_append_getElem h, crcRun_app]; rfl
set_option maxRecDepth 100000 in
set_option maxHeartbeats 1000000 in
theorem ref_Sum8 (A : Option Addr) (n c : Nat) (l : List UInt8) (hl : l.length = n) (W : World) (h : Sl W A n c 1 (bcells l)) (hn : n ≤ 1000000) :
    Calls Try.prog 15 #[.slice A n c] W fun e W' => e = .returned (.int .u32 (sumC l : Nat)) ∧ Below W.heap.size W W' := by
  have HS := Lib.hid h
  have Hl := Lib.hid hl
  have hcap : c ≤ 9223372036854775807 := by have := h.cap; unfold maxLen at this; omega
  have hnc := h.le
  clear h hl
  go_enter Try.func15, Try.ntmps15
  go_wp2
  go_loopw [3, 4] (fun s3 s4 wr => ∃ i : Nat, i ≤ n ∧ s4 = .int .i64 i ∧ s3 = .int .u32 (crcRun 4294967295 (l.take i) : Nat) ∧ Hid (Below W.heap.size W wr)) (fun _ s4 _ => n - (intOf s4).toNat)
  case atStart => exact ⟨0, Nat.zero_le _, rfl, rfl, Lib.hid (Below.refl _ _)⟩
  case round =>
    obtain ⟨i, hi, rfl, rfl, HB⟩ := hrel
    by_cases hlt : i < n
    · have hil : i < l.length := by rw [Hl.out]; exact hlt
      obtain ⟨b, off, rfl, hbc⟩ := (HS.out.on HB.out).row.byte hil
      have HT := Lib.hid (crcRun_take hil 4294967295)
      have hlt1 := crcRun_lt (show 4294967295 < 4294967296 by decide) (l.take i)
      have hcl := UInt8.toNat_lt l[i]
      generalize crcRun 4294967295 (l.take i) = a at *
      have Hb := Lib.hid (show crcByte a l[i] = crcIt 8 (a ^^^ l[i].toNat) from rfl)
      have hx : bits .xor .u32 (a : Int) (l[i].toNat : Int) = ((a ^^^ l[i].toNat : Nat) : Int) := u32_xor_nat _ _ hlt1 (by omega)
      have hmL := byte_lt hlt1 l[i]
      generalize l[i].toNat = cn at *
      go_upto_region 6 with (fail)
      generalize a ^^^ cn = m0 at *
      clear hbc hx
      go_wp2
      go_loopw [3, 5, 6] (fun s3 s5 s6 wr => ∃ k : Nat, k ≤ 8 ∧ s5 = .int .i64 k ∧ s3 = .int .u32 (crcIt k m0 : Nat) ∧ Hid (Below W.heap.size W wr)) (fun _ s5 _ _ => 8 - (intOf s5).toNat)
      case atStart => exact ⟨0, by omega, rfl, rfl, HB⟩
      case round =>
        obtain ⟨k, hk, rfl, rfl, HB⟩ := hrel
        by_cases hk8 : k < 8
        · have hml := crcIt_lt hmL k
          have HE := Lib.hid (show crcIt (k + 1) m0 = crcBit (crcIt k m0) from rfl)
          generalize crcIt k m0 = m at *
          have hm0 : (0 : Int) ≤ (m : Int) := by omega
          have hm1 : (m : Int) ≤ 4294967295 := by omega
          by_cases ho : m % 2 = 1
          · have HB1 := Lib.hid (iter_odd m ho)
            have hx : bits .xor .u32 ((m : Int) / 2) 3988292384 = ((m / 2 ^^^ 3988292384 : Nat) : Int) := by
              rw [show ((m : Int) / 2) = ((m / 2 : Nat) : Int) by omega]
              exact u32_xor_nat (m / 2) 3988292384 (by omega) (by decide)
            have hob : ((m : Int) % 2 == 1) = true := by rw [beq_iff_eq]; omega
            go_wp2
            go_roundw
            case rel => exact ⟨k + 1, by omega, by go_num, by rw [HE.out, HB1.out], HB⟩
            case measure => simp [intOf]; omega
          · have HB1 := Lib.hid (iter_even m ho)
            have hob : ((m : Int) % 2 == 1) = false := by rw [beq_eq_false_iff_ne]; omega
            go_wp2
            go_roundw
            case rel => exact ⟨k + 1, by omega, by go_num, by rw [HE.out, HB1.out]; rfl, HB⟩
            case measure => simp [intOf]; omega
        · obtain rfl : k = 8 := by omega
          go_wp2
          go_roundw
          case rel => exact ⟨i + 1, by omega, by go_num, by rw [HT.out, Hb.out], HB⟩
          case measure => simp [intOf]; omega
    · obtain rfl : i = n := by omega
      have hrl := crcRun_lt (show 4294967295 < 4294967296 by decide) l
      have HF := Lib.hid (show sumC l = 4294967295 - crcRun 4294967295 (l.take i) from by rw [List.take_of_length_le (Nat.le_of_eq Hl.out)]; rfl)
      have hrt : crcRun 4294967295 (l.take i) < 4294967296 := crcRun_lt (by decide) _
      generalize crcRun 4294967295 (l.take i) = a at *
      have ha1 : (a : Int) ≤ 4294967295 := by omega
      go_wp2
      go_ret
      exact ⟨by show Ending.returned (Value.int IntKind.u32 (4294967295 - (a : Int))) = _; rw [HF.out, show (4294967295 - (a : Int)) = ((4294967295 - a : Nat) : Int) by omega], HB.out⟩
end Go.Proofs.Ytaimciblkimgkaa
