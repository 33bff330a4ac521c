/-
  Layer 5, msg: what the document says of messages, as functions of lists of fields: plain mathematics.
-/
import Derived.Test.YtcfpchcbiknehaaDoorRFrmText
namespace Go.Proofs.YtcfpchcbiknehaaDoorR

def eS : ByteArray := ⟨#[]⟩
structure Exc where
  id : ByteArray
  ref : ByteArray
  order : ByteArray
  account : ByteArray
  symbol : ByteArray
  kind : Int
  buy : Bool
  qty : Int
  price : Int
  time : Int
deriving DecidableEq
structure Mg where
  kind : Int
  seq : Int
  time : Int
  copy : Bool
  a : Int
  b : Int
  gap : Bool
  text : ByteArray
  ex : Exc
deriving DecidableEq
def Exc.zero : Exc := ⟨eS, eS, eS, eS, eS, 0, false, 0, 0, 0⟩
def Mg.zero : Mg := ⟨0, 0, 0, false, 0, 0, false, eS, Exc.zero⟩
def Exc.cells (x : Exc) : List Value := [.string x.id, .string x.ref, .string x.order, .string x.account, .string x.symbol, .int .i64 x.kind, .bool x.buy, .int .i64 x.qty, .int .i64 x.price, .int .i64 x.time]
def Exc.val (x : Exc) : Value := .agg #[.string x.id, .string x.ref, .string x.order, .string x.account, .string x.symbol, .int .i64 x.kind, .bool x.buy, .int .i64 x.qty, .int .i64 x.price, .int .i64 x.time]
def Mg.val (m : Mg) : Value := .agg #[.int .i64 m.kind, .int .i64 m.seq, .int .i64 m.time, .bool m.copy, .int .i64 m.a, .int .i64 m.b, .bool m.gap, .string m.text, .string m.ex.id, .string m.ex.ref, .string m.ex.order, .string m.ex.account, .string m.ex.symbol, .int .i64 m.ex.kind, .bool m.ex.buy, .int .i64 m.ex.qty, .int .i64 m.ex.price, .int .i64 m.ex.time]

def alnum (c : UInt8) : Bool := decide (65 ≤ c.toNat ∧ c.toNat ≤ 90) || (decide (97 ≤ c.toNat ∧ c.toNat ≤ 122) || decide (48 ≤ c.toNat ∧ c.toNat ≤ 57))
/-- A name. -/
def nm (s : ByteArray) : Bool := decide (1 ≤ s.size ∧ s.size ≤ 16) && s.data.toList.all alnum
def small (n : Int) : Bool := decide (0 ≤ n ∧ n ≤ 1099511627776)
def timeR (n : Int) : Bool := decide (0 ≤ n ∧ n ≤ 4611686018427387904)
def refK (k : Int) : Bool := decide (k = 4 ∨ k = 7 ∨ k = 8)
def refB (x : Exc) : Bool := if refK x.kind then nm x.ref else decide (x.ref = eS)
/-- May it be an execution? -/
def excB (x : Exc) : Bool := decide (1 ≤ x.kind ∧ x.kind ≤ 8) && (nm x.id && (nm x.order && (nm x.account && (nm x.symbol && (refB x && (small x.qty && (small x.price && timeR x.time)))))))
def textB (s : ByteArray) : Bool := decide (s.size ≤ 64) && no1 s.data.toList
/-- What only some kinds have. -/
structure Kinded (m : Mg) : Prop where
  ex7 : m.kind = 7 → excB m.ex = true
  ex : m.kind ≠ 7 → m.ex = Exc.zero
  gap : m.kind ≠ 5 → m.gap = false
  b : m.kind ≠ 4 → m.b = 0
  text : m.kind ≠ 2 → m.kind ≠ 3 → m.text = eS
  text3 : m.kind = 3 → m.text ≠ eS
  a : m.kind ≠ 1 → m.kind ≠ 4 → m.kind ≠ 5 → m.a = 0
  a1 : m.kind = 4 ∨ m.kind = 5 → m.a ≠ 0
/-- May it be a message? -/
structure MsgR (m : Mg) : Prop where
  kind : 1 ≤ m.kind ∧ m.kind ≤ 7
  seq : 1 ≤ m.seq ∧ m.seq ≤ 1099511627776
  time : timeR m.time = true
  sa : small m.a = true
  sb : small m.b = true
  stext : textB m.text = true
  kinded : Kinded m
noncomputable def msgB (m : Mg) : Bool := @decide (MsgR m) (Classical.propDecidable _)
theorem msgB_iff {m : Mg} : msgB m = true ↔ MsgR m := by unfold msgB; exact @decide_eq_true_iff _ (Classical.propDecidable _)
theorem msgB_false {m : Mg} (h : ¬ MsgR m) : msgB m = false := by rw [Bool.eq_false_iff]; exact fun g => h (msgB_iff.1 g)

def nmV (n : Int) : ByteArray := ⟨(showL n).toArray⟩
def yV : ByteArray := ⟨#[89]⟩
def kindV (k : Int) : ByteArray := if k = 1 then ⟨#[65]⟩ else if k = 2 then ⟨#[48]⟩ else if k = 3 then ⟨#[49]⟩ else if k = 4 then ⟨#[50]⟩ else if k = 5 then ⟨#[52]⟩ else if k = 6 then ⟨#[53]⟩ else ⟨#[56]⟩
def kindN (s : ByteArray) : Int := if s = ⟨#[65]⟩ then 1 else if s = ⟨#[48]⟩ then 2 else if s = ⟨#[49]⟩ then 3 else if s = ⟨#[50]⟩ then 4 else if s = ⟨#[52]⟩ then 5 else if s = ⟨#[53]⟩ then 6 else if s = ⟨#[56]⟩ then 7 else 0
def opt (t : Int) (s : ByteArray) : List Fld := if s = eS then [] else [⟨t, s⟩]
def optY (t : Int) (b : Bool) : List Fld := if b then [⟨t, yV⟩] else []
def sideV (b : Bool) : ByteArray := if b then ⟨#[49]⟩ else ⟨#[50]⟩
/-- An execution's fields. -/
def exL (x : Exc) : List Fld := ⟨17, x.id⟩ :: (opt 19 x.ref ++ [⟨11, x.order⟩, ⟨1, x.account⟩, ⟨55, x.symbol⟩, ⟨54, sideV x.buy⟩, ⟨150, nmV x.kind⟩, ⟨32, nmV x.qty⟩, ⟨31, nmV x.price⟩, ⟨60, nmV x.time⟩])
def restL (m : Mg) : List Fld :=
  if m.kind = 1 then [⟨108, nmV m.a⟩] else if m.kind = 2 ∨ m.kind = 3 then opt 112 m.text else if m.kind = 4 then [⟨7, nmV m.a⟩, ⟨16, nmV m.b⟩]
  else if m.kind = 5 then optY 123 m.gap ++ [⟨36, nmV m.a⟩] else if m.kind = 7 then exL m.ex else []
/-- A message's fields. -/
def msgL (m : Mg) : List Fld := ⟨35, kindV m.kind⟩ :: ⟨34, nmV m.seq⟩ :: ⟨52, nmV m.time⟩ :: (optY 43 m.copy ++ restL m)
noncomputable def mPutE (m : Mg) : Int := if msgB m then 0 else 1
noncomputable def mPutV (m : Mg) : List UInt8 := if msgB m then putL (msgL m) else []

/-! ### Fields are taken, one behind the other -/
def tkV (tag : Int) (l : List Fld) : ByteArray := match l with
  | [] => eS
  | f :: _ => if f.tag = tag then f.val else eS
def tkL (tag : Int) (l : List Fld) : List Fld := match l with
  | [] => []
  | f :: r => if f.tag = tag then r else f :: r
def tkB (tag : Int) (l : List Fld) : Bool := match l with
  | [] => false
  | f :: _ => decide (f.tag = tag)
/-- What is read so far: the fields that are left, and whether all was well. -/
structure Tk where
  l : List Fld
  ok : Bool
def Tk.take (s : Tk) (t : Int) : Tk := ⟨tkL t s.l, s.ok && tkB t s.l⟩
def Tk.may (s : Tk) (t : Int) : Tk := ⟨tkL t s.l, s.ok⟩
def Tk.num (s : Tk) (t : Int) : Tk := ⟨tkL t s.l, s.ok && (tkB t s.l && decide (parseE (tkV t s.l).data.toList = 0))⟩
def Tk.yes (s : Tk) (t : Int) : Tk := ⟨tkL t s.l, s.ok && (decide (tkV t s.l = eS) || decide (tkV t s.l = yV))⟩
def Tk.numV (s : Tk) (t : Int) : Int := parseV (tkV t s.l).data.toList
def Tk.yesV (s : Tk) (t : Int) : Bool := decide (tkV t s.l = yV)
def Tk.bad (s : Tk) (b : Bool) : Tk := ⟨s.l, s.ok && !b⟩
def exRead (s : Tk) : Exc × Tk :=
  let s1 := s.take 17
  let s2 := s1.may 19
  let s3 := s2.take 11
  let s4 := s3.take 1
  let s5 := s4.take 55
  let side := tkV 54 s5.l
  let s6 := (s5.take 54).bad (!decide (side = ⟨#[49]⟩) && !decide (side = ⟨#[50]⟩))
  let kind := s6.numV 150
  let s7 := (s6.num 150).bad (decide (kind < 1) || decide (8 < kind))
  let s8 := s7.num 32
  let s9 := s8.num 31
  let s10 := s9.num 60
  (⟨tkV 17 s.l, tkV 19 s1.l, tkV 11 s2.l, tkV 1 s3.l, tkV 55 s4.l, (if kind < 1 ∨ 8 < kind then 0 else kind), decide (side = ⟨#[49]⟩), s7.numV 32, s8.numV 31, s9.numV 60⟩, s10)
def headRead (l : List Fld) : Mg × Tk :=
  let s : Tk := ⟨l, true⟩
  let s1 := s.take 35
  let s2 := s1.num 34
  let s3 := s2.num 52
  let s4 := s3.yes 43
  (⟨kindN (tkV 35 l), s1.numV 34, s2.numV 52, s3.yesV 43, 0, 0, false, eS, Exc.zero⟩, s4)
def restRead (m : Mg) (s : Tk) : Mg × Tk :=
  if m.kind = 1 then ({ m with a := s.numV 108 }, s.num 108)
  else if m.kind = 2 ∨ m.kind = 3 then ({ m with text := tkV 112 s.l }, s.may 112)
  else if m.kind = 4 then ({ m with a := s.numV 7, b := (s.num 7).numV 16 }, (s.num 7).num 16)
  else if m.kind = 5 then ({ m with gap := s.yesV 123, a := (s.yes 123).numV 36 }, (s.yes 123).num 36)
  else if m.kind = 7 then ({ m with ex := (exRead s).1 }, (exRead s).2)
  else (m, s)
def readT (l : List Fld) : Mg × Tk := restRead (headRead l).1 (headRead l).2
/-- The message of which these are the fields, if they are one's. -/
noncomputable def readM (l : List Fld) : Option Mg := if (readT l).2.ok = true ∧ (readT l).2.l = [] ∧ msgB (readT l).1 = true then some (readT l).1 else none
noncomputable def mReadV (b : List UInt8) : Mg := match parseF b with
  | .error _ => Mg.zero
  | .ok l => (readM l).getD Mg.zero
noncomputable def mReadE (b : List UInt8) : Int := match parseF b with
  | .error e => e
  | .ok l => if (readM l).isSome then 0 else 3
end Go.Proofs.YtcfpchcbiknehaaDoorR
