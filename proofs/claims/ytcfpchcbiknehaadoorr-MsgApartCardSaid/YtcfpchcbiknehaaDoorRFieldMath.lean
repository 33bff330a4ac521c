/-
  Layer 2, field: the plain mathematics of fields and their bytes.
-/
import Derived.Test.YtcfpchcbiknehaaDoorRTextBack
import Derived.Lib.Bytealg
import Derived.Lib.IndexLaws
import Derived.Lib.CutLaws
namespace Go.Proofs.YtcfpchcbiknehaaDoorR

structure Fld where
  tag : Int
  val : ByteArray
deriving Inhabited
def Fld.cells (f : Fld) : List Value := [.int .i64 f.tag, .string f.val]
def fcells (l : List Fld) : List Value := l.flatMap Fld.cells
theorem fcells_cons (f : Fld) (l : List Fld) : fcells (f :: l) = .int .i64 f.tag :: .string f.val :: fcells l := by simp [fcells, Fld.cells]
theorem fcells_len (l : List Fld) : (fcells l).length = l.length * 2 := by
  induction l with
  | nil => rfl
  | cons f l ih => rw [fcells_cons]; simp [ih]; omega
theorem fcells_app (a b : List Fld) : fcells (a ++ b) = fcells a ++ fcells b := by simp [fcells]
theorem fcells_get : ∀ (l : List Fld) (k : Nat) (h : k < l.length), (fcells l)[k * 2]? = some (.int .i64 l[k].tag) ∧ (fcells l)[k * 2 + 1]? = some (.string l[k].val)
  | f :: l, 0, _ => by rw [fcells_cons]; exact ⟨rfl, rfl⟩
  | f :: l, k + 1, h => by
    rw [fcells_cons]
    have := fcells_get l k (by simpa using h)
    rw [show (k + 1) * 2 = k * 2 + 1 + 1 by omega]
    simpa using this
theorem fcells_take (l : List Fld) (k : Nat) : (fcells l).take (k * 2) = fcells (l.take k) := by
  induction l generalizing k with
  | nil => simp [fcells]
  | cons f l ih => cases k with
    | zero => simp [fcells]
    | succ k => rw [fcells_cons, show (k + 1) * 2 = k * 2 + 1 + 1 by omega, List.take_succ_cons, List.take_succ_cons, ih, List.take_succ_cons, fcells_cons]

def rightT (t : Int) : Bool := decide (1 ≤ t ∧ t ≤ 9999)
def no1 (l : List UInt8) : Bool := l.all fun c => c != 1
def rightV (l : List UInt8) : Bool := !l.isEmpty && (decide (l.length ≤ 256) && no1 l)
def Fld.right (f : Fld) : Bool := rightT f.tag && rightV f.val.data.toList

theorem index_no1 (l : List UInt8) : no1 l = decide (Lib.indexByte l 1 < 0) := by
  induction l with
  | nil => rfl
  | cons c l ih =>
    have hg := Lib.indexByte_ge l 1
    unfold no1 at ih
    rw [no1, List.all_cons, ih, Lib.indexByte]
    by_cases hc : c = 1
    · simp [hc]
    · have : (c == 1) = false := by simp [hc]
      simp only [bne, this, Bool.not_false, Bool.true_and, Bool.false_eq_true, if_false, beq_iff_eq]
      by_cases hm : Lib.indexByte l 1 = -1
      · simp [hm]
      · simp only [hm, if_false]
        rw [decide_eq_decide]; omega
def getV (l : List Fld) (tag : Int) : ByteArray := match l with
  | [] => ByteArray.empty
  | f :: r => if f.tag = tag then f.val else getV r tag
def getB (l : List Fld) (tag : Int) : Bool := match l with
  | [] => false
  | f :: r => if f.tag = tag then true else getB r tag
theorem get_drop (l : List Fld) (tag : Int) (k : Nat) (h : k < l.length) :
    (l[k].tag = tag → getV (l.drop k) tag = l[k].val ∧ getB (l.drop k) tag = true) ∧ (¬ l[k].tag = tag → getV (l.drop k) tag = getV (l.drop (k + 1)) tag ∧ getB (l.drop k) tag = getB (l.drop (k + 1)) tag) := by
  rw [List.drop_eq_getElem_cons h]
  constructor <;> intro e <;> simp [getV, getB, e]
end Go.Proofs.YtcfpchcbiknehaaDoorR
