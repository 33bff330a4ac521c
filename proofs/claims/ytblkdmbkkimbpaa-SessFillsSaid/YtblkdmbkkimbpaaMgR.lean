/-
  What may be an execution, and what may be a message. Nothing of the program stands here.
-/
import Derived.Test.YtblkdmbkkimbpaaMg
namespace Go.Proofs.Ytblkdmbkkimbpaa

def no1 (l : List UInt8) : Bool := l.all fun c => c != 1
def alnum (c : UInt8) : Bool := decide (65 ≤ c.toNat ∧ c.toNat ≤ 90) || (decide (97 ≤ c.toNat ∧ c.toNat ≤ 122) || decide (48 ≤ c.toNat ∧ c.toNat ≤ 57))
/-- A name. -/
def nm (s : ByteArray) : Bool := decide (1 ≤ s.size ∧ s.size ≤ 16) && s.data.toList.all alnum
def small (n : Int) : Bool := decide (0 ≤ n ∧ n ≤ 1099511627776)
def timeR (n : Int) : Bool := decide (0 ≤ n ∧ n ≤ 4611686018427387904)
def refK (k : Int) : Bool := decide (k = 4 ∨ k = 7 ∨ k = 8)
def refB (x : Exc) : Bool := if refK x.kind then nm x.ref else decide (x.ref = eS)
/-- May it be an execution? -/
def excB (x : Exc) : Bool := decide (1 ≤ x.kind ∧ x.kind ≤ 8) && (nm x.id && (nm x.order && (nm x.account && (nm x.symbol && (refB x && (small x.qty && (small x.price && timeR x.time)))))))
def textB (s : ByteArray) : Bool := decide (s.size ≤ 64) && no1 s.data.toList
/-- What only some kinds have. -/
structure Kinded (m : Mg) : Prop where
  ex7 : m.kind = 7 → excB m.ex = true
  ex : m.kind ≠ 7 → m.ex = Exc.zero
  gap : m.kind ≠ 5 → m.gap = false
  b : m.kind ≠ 4 → m.b = 0
  text : m.kind ≠ 2 → m.kind ≠ 3 → m.text = eS
  text3 : m.kind = 3 → m.text ≠ eS
  a : m.kind ≠ 1 → m.kind ≠ 4 → m.kind ≠ 5 → m.a = 0
  a1 : m.kind = 4 ∨ m.kind = 5 → m.a ≠ 0
/-- May it be a message? -/
structure MsgR (m : Mg) : Prop where
  kind : 1 ≤ m.kind ∧ m.kind ≤ 7
  seq : 1 ≤ m.seq ∧ m.seq ≤ 1099511627776
  time : timeR m.time = true
  sa : small m.a = true
  sb : small m.b = true
  stext : textB m.text = true
  kinded : Kinded m
noncomputable def msgB (m : Mg) : Bool := @decide (MsgR m) (Classical.propDecidable _)
theorem msgB_iff {m : Mg} : msgB m = true ↔ MsgR m := by unfold msgB; exact @decide_eq_true_iff _ (Classical.propDecidable _)
theorem msgB_false {m : Mg} (h : ¬ MsgR m) : msgB m = false := by rw [Bool.eq_false_iff]; exact fun g => h (msgB_iff.1 g)
end Go.Proofs.Ytblkdmbkkimbpaa
