/-
  Layer 3, frame: the contracts of the two sums, of three and of rightSize.
-/
import Derived.Test.YtacaipnjedfdoaaDoorFrmMath
import Derived.Test.YtacaipnjedfdoaaDoorFieldParse
import Derived.Test.YtacaipnjedfdoaaDoorFieldRefParse
namespace Go.Proofs.YtacaipnjedfdoaaDoor
open Go.RowKit

theorem frame_Sum (A : Option Addr) (n c : Nat) (bs : List UInt8) (w : World) (h : Row w A (bcells bs)) (hn : bs.length = n) (hl : n ≤ 1000000) :
    Calls Tryd.prog 15 #[.slice A n c] w fun e w' => e = .returned (.int .i64 (sumN bs)) ∧ w = w' := by
  subst hn
  have HR := Lib.hid h; clear h
  go_enter Tryd.func15, Tryd.ntmps15
  go_wp2
  go_loop [3, 8] (fun s i => ∃ k : Nat, k ≤ bs.length ∧ i = .int .i64 k ∧ s = .int .u8 (sumN (bs.take k))) (fun _ i => bs.length - (intOf i).toNat)
  case atStart => exact ⟨0, Nat.zero_le _, rfl, rfl⟩
  case round =>
    obtain ⟨k, hk, rfl, rfl⟩ := hrel
    by_cases hlt : k < bs.length
    · obtain ⟨b, off, rfl, h0⟩ := HR.out.byte hlt
      have Ht := Lib.hid (sumN_take bs k hlt)
      generalize bs[k] = x at *
      generalize sumN (bs.take k) = s at *
      go_wp2
      go_round
      case rel => exact ⟨k + 1, by omega, by go_num, by rw [Ht.out]; congr 1⟩
      case measure => simp [intOf]; omega
    · obtain rfl : k = bs.length := by omega
      have Ht := Lib.hid (show bs.take bs.length = bs from List.take_length)
      rw [Ht.out]
      have hs := sumN_lt bs
      go_wp2
      go_ret
      exact ⟨rfl, rfl⟩
theorem frame_rightSize (n : Int) (r : Bool) (h : r = decide (1 ≤ n ∧ n ≤ 8000)) (w : World) : Calls Tryd.prog 24 #[.int .i64 n] w fun e w' => e = .returned (.bool r) ∧ w = w' := by
  rcases (show (decide (1 ≤ n ∧ n ≤ 8000) = true ∧ 1 ≤ n ∧ n ≤ 8000) ∨ (decide (1 ≤ n ∧ n ≤ 8000) = false ∧ n < 1) ∨ (decide (1 ≤ n ∧ n ≤ 8000) = false ∧ 1 ≤ n ∧ 8000 < n) by simp; omega) with ⟨hr, h0, h1⟩ | ⟨hr, h0⟩ | ⟨hr, h0, h1⟩
  · rw [hr] at h; clear hr; subst h
    go_enter Tryd.func24, Tryd.ntmps24
    go_wp2
    go_ret
    exact ⟨retB rfl, rfl⟩
  · rw [hr] at h; clear hr; subst h
    go_enter Tryd.func24, Tryd.ntmps24
    go_wp2
    go_ret
    exact ⟨retB rfl, rfl⟩
  · rw [hr] at h; clear hr; subst h
    go_enter Tryd.func24, Tryd.ntmps24
    go_wp2
    go_ret
    exact ⟨retB (by simp; omega), rfl⟩
theorem dig3_eq (s : Nat) (hs : s < 256) : List.replicate (3 - (Lib.decDigits s).length) 48 ++ Lib.decDigits s = dig3 s ∧ (Lib.decDigits s).length ≤ 3 := by
  unfold dig3
  by_cases h1 : s < 10
  · rw [decDigits_small h1, show s / 100 = 0 by omega, show s / 10 % 10 = 0 by omega, show s % 10 = s by omega]
    exact ⟨rfl, by simp⟩
  · by_cases h2 : s < 100
    · rw [decDigits_big h1, decDigits_small (by omega), show s / 100 = 0 by omega, show s / 10 % 10 = s / 10 by omega]
      exact ⟨rfl, by simp⟩
    · rw [decDigits_big h1, decDigits_big (u := s / 10) (by omega), decDigits_small (u := s / 10 / 10) (by omega), show s / 10 / 10 = s / 100 by omega]
      exact ⟨rfl, by simp⟩
theorem repeatL_one (k : Nat) : Lib.repeatL [48] k = List.replicate k 48 := by
  induction k with
  | zero => rfl
  | succ k ih => unfold Lib.repeatL; rw [ih]; rfl
theorem itoa_nat (n : Nat) : Lib.itoa (n : Int) = Lib.decDigits n := by
  unfold Lib.itoa
  rw [if_neg (by omega), Int.toNat_natCast]
theorem frame_three (s : Nat) (hs : s < 256) (w : World) (hctx : Ctx w) : Calls Tryd.prog 16 #[.int .i64 s] w fun e w' => e = .returned (.string ⟨(dig3 s).toArray⟩) ∧ Below w.heap.size w w' := by
  obtain ⟨hd, hl⟩ := dig3_eq s hs
  have hi : Hid (Calls Tryd.prog 14 #[.int .i64 s] w fun e w' => e = .returned (.string ⟨(Lib.decDigits s).toArray⟩) ∧ Below w.heap.size w w') :=
    (Tryd.strconv_Itoa s (by omega) (by omega) w hctx.1).mono fun e w' ⟨he, k, os, hw⟩ => ⟨by rw [he, itoa_nat], by rw [hw]; exact Lib.below_grow _ _ (Nat.le_refl _) _ _⟩
  have hrp : Hid (∀ W, Calls Tryd.prog 27 #[.string ⟨#[48]⟩, .int .i64 (3 - ((Lib.decDigits s).length : Int))] W fun e w' => e = .returned (.string ⟨(List.replicate (3 - (Lib.decDigits s).length) 48).toArray⟩) ∧ Below W.heap.size W w') := fun W => by
    rw [show (3 : Int) - ((Lib.decDigits s).length : Int) = ((3 - (Lib.decDigits s).length : Nat) : Int) by omega]
    exact (Tryd.strings_Repeat ⟨#[48]⟩ (3 - (Lib.decDigits s).length) W (by omega) (by show 1 * _ ≤ _; omega)).mono fun e w' ⟨he, hw⟩ => ⟨by rw [he, ← repeatL_one], hw⟩
  have Hd := Lib.hid hd; clear hd
  generalize Lib.decDigits s = d at *
  go_enter Tryd.func16, Tryd.ntmps16
  go_wp2_with (go_at_call 14; refine hi.out.mono ?_; rintro e w1 ⟨rfl, hb1⟩)
  refine (hrp.out _).mono ?_
  rintro e w2 ⟨rfl, hb2⟩
  go_wp2
  go_ret
  refine ⟨?_, hb1.trans (hb2.mono hb1.size)⟩
  rw [← Hd.out]
  show Ending.returned (.string ((⟨Array.replicate (3 - d.length) 48⟩ : ByteArray) ++ (⟨d.toArray⟩ : ByteArray))) = _
  refine congrArg (fun s => Ending.returned (.string s)) ?_
  apply ByteArray.ext
  simp
end Go.Proofs.YtacaipnjedfdoaaDoor
