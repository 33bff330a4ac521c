/-
  Layer 8, crc: sums of bytes, bit by bit and byte by byte; what one turned bit does to them: plain mathematics.
-/
import Derived.Lib.Hide
namespace Go.Proofs.Ytaimciblkimgkaa

/-- One bit's step: halved, and, if it was odd, with the polynomial. -/
def crcBit (n : Nat) : Nat := if n % 2 = 1 then (n / 2) ^^^ 3988292384 else n / 2
theorem xor_half (a b : Nat) : (a ^^^ b) / 2 = a / 2 ^^^ b / 2 := Nat.xor_div_two
theorem xor_odd (a b : Nat) : (a ^^^ b) % 2 = (a % 2 + b % 2) % 2 := by
  have h := Nat.testBit_xor a b 0
  simp only [Nat.testBit_zero] at h
  have h1 : (a ^^^ b) % 2 = 1 ↔ ¬ (a % 2 = 1 ↔ b % 2 = 1) := by
    by_cases ha : a % 2 = 1 <;> by_cases hb : b % 2 = 1 <;> simp [ha, hb] at h ⊢ <;> omega
  have h2 := Nat.mod_two_eq_zero_or_one (a ^^^ b)
  generalize (a ^^^ b) % 2 = x at h1 h2 ⊢
  rcases Nat.mod_two_eq_zero_or_one a with ha | ha <;> rcases Nat.mod_two_eq_zero_or_one b with hb | hb <;> rw [ha, hb] at h1 ⊢ <;> simp at h1 <;> omega
theorem crcBit_lt {n : Nat} (h : n < 4294967296) : crcBit n < 4294967296 := by
  unfold crcBit
  split
  · exact Nat.xor_lt_two_pow (n := 32) (by omega) (by decide)
  · omega
theorem crcBit_xor (a b : Nat) : crcBit (a ^^^ b) = crcBit a ^^^ crcBit b := by
  unfold crcBit
  rw [xor_half, xor_odd]
  rcases Nat.mod_two_eq_zero_or_one a with ha | ha <;> rcases Nat.mod_two_eq_zero_or_one b with hb | hb
  · rw [ha, hb]; simp
  · rw [ha, hb]; simp [Nat.xor_assoc]
  · rw [ha, hb]; simp; rw [Nat.xor_assoc, Nat.xor_comm (b / 2), ← Nat.xor_assoc]
  · rw [ha, hb]; simp
    rw [Nat.xor_assoc, Nat.xor_comm (b / 2) 3988292384, ← Nat.xor_assoc 3988292384, Nat.xor_self, Nat.zero_xor]
theorem crcBit_zero {n : Nat} (h : n < 4294967296) (h0 : crcBit n = 0) : n = 0 := by
  unfold crcBit at h0
  split at h0
  · have : n / 2 = 3988292384 := by
      have h1 : (n / 2 ^^^ 3988292384) ^^^ 3988292384 = 0 ^^^ 3988292384 := by rw [h0]
      rw [Nat.xor_assoc, Nat.xor_self, Nat.xor_zero, Nat.zero_xor] at h1
      exact h1
    omega
  · omega
theorem xor_zero_eq {a b : Nat} (h : a ^^^ b = 0) : a = b := by
  have h1 : (a ^^^ b) ^^^ b = 0 ^^^ b := by rw [h]
  rw [Nat.xor_assoc, Nat.xor_self, Nat.xor_zero, Nat.zero_xor] at h1
  exact h1
/-- Eight of them. -/
def crc8 (n : Nat) : Nat := crcBit (crcBit (crcBit (crcBit (crcBit (crcBit (crcBit (crcBit n)))))))
theorem crc8_lt {n : Nat} (h : n < 4294967296) : crc8 n < 4294967296 := crcBit_lt (crcBit_lt (crcBit_lt (crcBit_lt (crcBit_lt (crcBit_lt (crcBit_lt (crcBit_lt h)))))))
theorem crc8_xor (a b : Nat) : crc8 (a ^^^ b) = crc8 a ^^^ crc8 b := by unfold crc8; simp only [crcBit_xor]
theorem crc8_zero {n : Nat} (h : n < 4294967296) (h0 : crc8 n = 0) : n = 0 := by
  unfold crc8 at h0
  have l1 := crcBit_lt h
  have l2 := crcBit_lt l1
  have l3 := crcBit_lt l2
  have l4 := crcBit_lt l3
  have l5 := crcBit_lt l4
  have l6 := crcBit_lt l5
  have l7 := crcBit_lt l6
  exact crcBit_zero h (crcBit_zero l1 (crcBit_zero l2 (crcBit_zero l3 (crcBit_zero l4 (crcBit_zero l5 (crcBit_zero l6 (crcBit_zero l7 h0)))))))
theorem crc8_inj {a b : Nat} (ha : a < 4294967296) (hb : b < 4294967296) (h : crc8 a = crc8 b) : a = b := by
  refine xor_zero_eq (crc8_zero (Nat.xor_lt_two_pow (n := 32) ha hb) ?_)
  rw [crc8_xor, h, Nat.xor_self]
theorem crcBit_two (x : Nat) : crcBit (2 * x) = x := by
  unfold crcBit
  rw [if_neg (by omega)]
  omega
theorem crc8_shift (x : Nat) : crc8 (x * 256) = x := by
  unfold crc8
  rw [show x * 256 = 2 * (2 * (2 * (2 * (2 * (2 * (2 * (2 * x))))))) by omega]
  simp only [crcBit_two]
theorem low_high (n : Nat) : n = n % 256 ^^^ (n / 256 * 256) := by
  apply Nat.eq_of_testBit_eq
  intro i
  rw [Nat.testBit_xor, show (256 : Nat) = 2 ^ 8 from rfl, Nat.testBit_mod_two_pow, Nat.testBit_mul_two_pow]
  by_cases h : i < 8
  · simp [h, Nat.not_le.2 h]
  · simp only [h, decide_false, Bool.false_and, Bool.false_xor]
    rw [Nat.testBit_div_two_pow]
    simp [Nat.le_of_not_lt h, Nat.sub_add_cancel (Nat.le_of_not_lt h)]
/-- Byte by byte: the low byte's own sum, and the rest. -/
theorem crc8_split (n : Nat) : crc8 n = crc8 (n % 256) ^^^ (n / 256) := by
  rw [low_high n, crc8_xor, crc8_shift, ← low_high n]
/-- A byte comes. -/
def crcByte (n : Nat) (c : UInt8) : Nat := crc8 (n ^^^ c.toNat)
theorem byte_lt {n : Nat} (h : n < 4294967296) (c : UInt8) : n ^^^ c.toNat < 4294967296 := Nat.xor_lt_two_pow (n := 32) h (Nat.lt_of_lt_of_le (UInt8.toNat_lt c) (by decide))
theorem crcByte_lt {n : Nat} (h : n < 4294967296) (c : UInt8) : crcByte n c < 4294967296 := crc8_lt (byte_lt h c)
theorem crcByte_inj {a b : Nat} (ha : a < 4294967296) (hb : b < 4294967296) {c : UInt8} (h : crcByte a c = crcByte b c) : a = b := by
  have h1 := crc8_inj (byte_lt ha c) (byte_lt hb c) h
  have h2 : (a ^^^ c.toNat) ^^^ c.toNat = (b ^^^ c.toNat) ^^^ c.toNat := by rw [h1]
  rw [Nat.xor_assoc, Nat.xor_self, Nat.xor_zero, Nat.xor_assoc, Nat.xor_self, Nat.xor_zero] at h2
  exact h2
theorem crcByte_byte {a : Nat} (ha : a < 4294967296) {c d : UInt8} (h : crcByte a c = crcByte a d) : c = d := by
  have h1 := crc8_inj (byte_lt ha c) (byte_lt ha d) h
  have h2 : a ^^^ (a ^^^ c.toNat) = a ^^^ (a ^^^ d.toNat) := by rw [h1]
  rw [← Nat.xor_assoc, ← Nat.xor_assoc, Nat.xor_self, Nat.zero_xor, Nat.zero_xor] at h2
  exact UInt8.toNat_inj.1 h2
def crcRun (n : Nat) (l : List UInt8) : Nat := l.foldl crcByte n
theorem crcRun_app (n : Nat) (a b : List UInt8) : crcRun n (a ++ b) = crcRun (crcRun n a) b := List.foldl_append ..
theorem crcRun_lt {n : Nat} (h : n < 4294967296) : ∀ l : List UInt8, crcRun n l < 4294967296
  | [] => h
  | c :: r => crcRun_lt (crcByte_lt h c) r
theorem crcRun_inj {a b : Nat} (ha : a < 4294967296) (hb : b < 4294967296) : ∀ l : List UInt8, crcRun a l = crcRun b l → a = b
  | [], h => h
  | c :: r, h => crcByte_inj ha hb (crcRun_inj (crcByte_lt ha c) (crcByte_lt hb c) r h)
/-- The sum of bytes. -/
def sumC (l : List UInt8) : Nat := 4294967295 - crcRun 4294967295 l
theorem sumC_lt (l : List UInt8) : sumC l < 4294967296 := by unfold sumC; omega
theorem sumC_nil : sumC [] = 0 := rfl
/-- Two lists that differ in one byte. -/
theorem sumC_ne {a b : List UInt8} {c d : UInt8} (h : c ≠ d) : sumC (a ++ c :: b) ≠ sumC (a ++ d :: b) := by
  intro he
  unfold sumC at he
  have l0 : (4294967295 : Nat) < 4294967296 := by decide
  have l1 := crcRun_lt l0 (a ++ c :: b)
  have l2 := crcRun_lt l0 (a ++ d :: b)
  have hr : crcRun 4294967295 (a ++ c :: b) = crcRun 4294967295 (a ++ d :: b) := by omega
  rw [crcRun_app, crcRun_app] at hr
  have la := crcRun_lt l0 a
  exact h (crcByte_byte la (crcRun_inj (crcByte_lt la c) (crcByte_lt la d) b hr))
theorem flip_ne (c : UInt8) (k : Nat) (hk : k < 8) : c ^^^ (1 <<< UInt8.ofNat k) ≠ c := by
  intro h
  have h1 : c ^^^ (c ^^^ (1 <<< UInt8.ofNat k)) = c ^^^ c := by rw [h]
  rw [← UInt8.xor_assoc, UInt8.xor_self, UInt8.zero_xor] at h1
  revert h1
  rcases (show k = 0 ∨ k = 1 ∨ k = 2 ∨ k = 3 ∨ k = 4 ∨ k = 5 ∨ k = 6 ∨ k = 7 by omega) with rfl | rfl | rfl | rfl | rfl | rfl | rfl | rfl <;> decide
theorem sumC_test : sumC [49, 50, 51, 52, 53, 54, 55, 56, 57] = 3421780262 := by decide +kernel
end Go.Proofs.Ytaimciblkimgkaa
