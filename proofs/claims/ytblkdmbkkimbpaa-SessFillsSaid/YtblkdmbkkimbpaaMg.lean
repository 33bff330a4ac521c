/-
  Executions and messages: what they are, as cells. Nothing of the program stands here.
-/
import Derived.RowKit
import Derived.WalkKit
namespace Go.Proofs.Ytblkdmbkkimbpaa

def eS : ByteArray := ⟨#[]⟩
structure Exc where
  id : ByteArray
  ref : ByteArray
  order : ByteArray
  account : ByteArray
  symbol : ByteArray
  kind : Int
  buy : Bool
  qty : Int
  price : Int
  time : Int
deriving DecidableEq
structure Mg where
  kind : Int
  seq : Int
  time : Int
  copy : Bool
  a : Int
  b : Int
  gap : Bool
  text : ByteArray
  ex : Exc
deriving DecidableEq
def Exc.zero : Exc := ⟨eS, eS, eS, eS, eS, 0, false, 0, 0, 0⟩
def Mg.zero : Mg := ⟨0, 0, 0, false, 0, 0, false, eS, Exc.zero⟩
def Exc.cells (x : Exc) : List Value := [.string x.id, .string x.ref, .string x.order, .string x.account, .string x.symbol, .int .i64 x.kind, .bool x.buy, .int .i64 x.qty, .int .i64 x.price, .int .i64 x.time]
def Exc.val (x : Exc) : Value := .agg #[.string x.id, .string x.ref, .string x.order, .string x.account, .string x.symbol, .int .i64 x.kind, .bool x.buy, .int .i64 x.qty, .int .i64 x.price, .int .i64 x.time]
def Mg.val (m : Mg) : Value := .agg #[.int .i64 m.kind, .int .i64 m.seq, .int .i64 m.time, .bool m.copy, .int .i64 m.a, .int .i64 m.b, .bool m.gap, .string m.text, .string m.ex.id, .string m.ex.ref, .string m.ex.order, .string m.ex.account, .string m.ex.symbol, .int .i64 m.ex.kind, .bool m.ex.buy, .int .i64 m.ex.qty, .int .i64 m.ex.price, .int .i64 m.ex.time]
/-- An execution that is an argument: its numbers and texts are Go's. -/
structure Exc.In (x : Exc) : Prop where
  kind : -9223372036854775808 ≤ x.kind ∧ x.kind ≤ 9223372036854775807
  qty : -9223372036854775808 ≤ x.qty ∧ x.qty ≤ 9223372036854775807
  price : -9223372036854775808 ≤ x.price ∧ x.price ≤ 9223372036854775807
  time : -9223372036854775808 ≤ x.time ∧ x.time ≤ 9223372036854775807
  id : x.id.size ≤ maxLen
  ref : x.ref.size ≤ maxLen
  order : x.order.size ≤ maxLen
  account : x.account.size ≤ maxLen
  symbol : x.symbol.size ≤ maxLen
structure Mg.In (m : Mg) : Prop where
  kind : -9223372036854775808 ≤ m.kind ∧ m.kind ≤ 9223372036854775807
  seq : -9223372036854775808 ≤ m.seq ∧ m.seq ≤ 9223372036854775807
  time : -9223372036854775808 ≤ m.time ∧ m.time ≤ 9223372036854775807
  a : -9223372036854775808 ≤ m.a ∧ m.a ≤ 9223372036854775807
  b : -9223372036854775808 ≤ m.b ∧ m.b ≤ 9223372036854775807
  text : m.text.size ≤ maxLen
  ex : m.ex.In
def Mg.arr (m : Mg) : Array Value := #[.int .i64 m.kind, .int .i64 m.seq, .int .i64 m.time, .bool m.copy, .int .i64 m.a, .int .i64 m.b, .bool m.gap, .string m.text, .string m.ex.id, .string m.ex.ref, .string m.ex.order, .string m.ex.account, .string m.ex.symbol, .int .i64 m.ex.kind, .bool m.ex.buy, .int .i64 m.ex.qty, .int .i64 m.ex.price, .int .i64 m.ex.time]
theorem arr_one (m : Mg) : m.arr.all (·.oneCell') = true := by unfold Mg.arr; simp [Value.oneCell']
def Exc.arr (x : Exc) : Array Value := #[.string x.id, .string x.ref, .string x.order, .string x.account, .string x.symbol, .int .i64 x.kind, .bool x.buy, .int .i64 x.qty, .int .i64 x.price, .int .i64 x.time]
theorem xarr_one (x : Exc) : x.arr.all (·.oneCell') = true := by unfold Exc.arr; simp [Value.oneCell']
end Go.Proofs.Ytblkdmbkkimbpaa
