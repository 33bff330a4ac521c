/-
  Layer 1, plain: what numbers, sums, products and their texts are. Nothing of the program.
-/
import Derived.Lib.ItoaNum
import Derived.Lib.ParseIntB
namespace Go.Proofs.YtcfpchcbiknehaaDoorR

/-- A number: from -2^62 to 2^62. -/
def right (n : Int) : Bool := decide (-4611686018427387904 ≤ n ∧ n ≤ 4611686018427387904)
def numV (n : Int) : Int := if right n then n else 0
def addB (a b : Int) : Bool := right a && right b && right (a + b)
def addV (a b : Int) : Int := if addB a b then a + b else 0
def mulB (a b : Int) : Bool := right a && right b && right (a * b)
def mulV (a b : Int) : Int := if mulB a b then a * b else 0
def sumB (l : List Int) : Bool := l.all right && right l.sum
def sumV (l : List Int) : Int := if sumB l then l.sum else 0

theorem right_iff {n : Int} : right n = true ↔ -4611686018427387904 ≤ n ∧ n ≤ 4611686018427387904 := by simp [right]
theorem right_t {n : Int} (h0 : -4611686018427387904 ≤ n) (h1 : n ≤ 4611686018427387904) : right n = true := right_iff.2 ⟨h0, h1⟩
theorem right_f0 {n : Int} (h : n < -4611686018427387904) : right n = false := by rw [Bool.eq_false_iff]; intro h'; have := right_iff.1 h'; omega
theorem right_f1 {n : Int} (h : 4611686018427387904 < n) : right n = false := by rw [Bool.eq_false_iff]; intro h'; have := right_iff.1 h'; omega
theorem right_cases (n : Int) : (right n = true ∧ -4611686018427387904 ≤ n ∧ n ≤ 4611686018427387904) ∨ (right n = false ∧ (n < -4611686018427387904 ∨ 4611686018427387904 < n)) := by
  by_cases h : right n = true
  · exact .inl ⟨h, right_iff.1 h⟩
  · refine .inr ⟨by simpa using h, ?_⟩
    have : ¬ (-4611686018427387904 ≤ n ∧ n ≤ 4611686018427387904) := fun h' => h (right_iff.2 h')
    omega
theorem numV_t {n : Int} (h : right n = true) : numV n = n := by simp [numV, h]
theorem numV_f {n : Int} (h : right n = false) : numV n = 0 := by simp [numV, h]
theorem addV_t {a b : Int} (h : addB a b = true) : addV a b = a + b := by simp [addV, h]
theorem addV_f {a b : Int} (h : addB a b = false) : addV a b = 0 := by simp [addV, h]
theorem mulV_t {a b : Int} (h : mulB a b = true) : mulV a b = a * b := by simp [mulV, h]
theorem mulV_f {a b : Int} (h : mulB a b = false) : mulV a b = 0 := by simp [mulV, h]
theorem addB_comm (a b : Int) : addB a b = addB b a := by unfold addB; rw [Int.add_comm a b, Bool.and_comm (right a)]
theorem mulB_comm (a b : Int) : mulB a b = mulB b a := by unfold mulB; rw [Int.mul_comm a b, Bool.and_comm (right a)]
theorem addV_comm (a b : Int) : addV a b = addV b a := by unfold addV; rw [addB_comm, Int.add_comm]
theorem mulV_comm (a b : Int) : mulV a b = mulV b a := by unfold mulV; rw [mulB_comm, Int.mul_comm]

def sgnU (n : Int) : Int := if n < 0 then 18446744073709551615 else 0
def absV (n : Int) : Int := (n.natAbs : Int)
def mulHi (x y : Int) : Int := x * y / 18446744073709551616
def mulLo (x y : Int) : Int := x * y % 18446744073709551616
theorem absV_nn (n : Int) : 0 ≤ absV n := by unfold absV; omega
theorem absV_le {n : Int} (h : right n = true) : absV n ≤ 4611686018427387904 := by have := right_iff.1 h; unfold absV; omega
theorem abs_mul (a b : Int) : absV (a * b) = absV a * absV b := by unfold absV; rw [Int.natAbs_mul]; push_cast; rfl
theorem mul_small {a b : Int} (_ : right a = true) (_ : right b = true) (h : right (a * b) = true) :
    mulHi (absV a) (absV b) = 0 ∧ mulLo (absV a) (absV b) = absV (a * b) ∧ absV (a * b) ≤ 4611686018427387904 := by
  have h1 := absV_le h
  have h0 := absV_nn (a * b)
  rw [abs_mul] at h1 h0
  unfold mulHi mulLo
  rw [abs_mul]
  generalize absV a * absV b = z at *
  omega
theorem mul_great {a b : Int} (_ : right a = true) (_ : right b = true) (h : right (a * b) = false) :
    (mulHi (absV a) (absV b) == 0) = false ∨ (mulHi (absV a) (absV b) = 0 ∧ 4611686018427387904 < mulLo (absV a) (absV b)) := by
  have h1 : 4611686018427387904 < absV a * absV b := by
    rw [← abs_mul]
    have := right_cases (a * b)
    rw [h] at this
    unfold absV
    rcases this with ⟨h', _⟩ | ⟨_, h'⟩
    · cases h'
    · omega
  unfold mulHi mulLo
  generalize absV a * absV b = z at *
  by_cases hz : z / 18446744073709551616 = 0
  · exact .inr ⟨hz, by omega⟩
  · exact .inl (by simpa using hz)
theorem mul_neg {a b : Int} (h : a < 0 ∧ 0 ≤ b ∨ 0 ≤ a ∧ b < 0) : -absV (a * b) = a * b := by
  have : a * b ≤ 0 := by
    rcases h with ⟨h, g⟩ | ⟨h, g⟩
    · exact Int.mul_nonpos_of_nonpos_of_nonneg (by omega) g
    · exact Int.mul_nonpos_of_nonneg_of_nonpos h (by omega)
  unfold absV; omega
theorem mul_pos {a b : Int} (h : a < 0 ∧ b < 0 ∨ 0 ≤ a ∧ 0 ≤ b) : absV (a * b) = a * b := by
  have : 0 ≤ a * b := by
    rcases h with ⟨h, g⟩ | ⟨h, g⟩
    · exact Int.mul_nonneg_of_nonpos_of_nonpos (by omega) (by omega)
    · exact Int.mul_nonneg h g
  unfold absV; omega
end Go.Proofs.YtcfpchcbiknehaaDoorR
