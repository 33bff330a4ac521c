/-
  Small laws of bytes, names and messages: plain mathematics.
-/
import Derived.Test.YtblkdmbkkimbpaaMgR
import Derived.Lib.Bytealg
import Derived.Lib.IndexLaws
import Derived.Lib.SmallJoins
namespace Go.Proofs.Ytblkdmbkkimbpaa
open Go.RowKit

theorem retB {b b' : Bool} (h : b = b') : Ending.returned (.bool b) = .returned (.bool b') := by rw [h]
theorem all_take_b (p : UInt8 → Bool) (d : List UInt8) (k : Nat) (h : k < d.length) : (d.take (k + 1)).all p = ((d.take k).all p && p d[k]) := by
  rw [List.take_succ_eq_append_getElem h, List.all_append]; simp
theorem take_b (t : ByteArray) (k : Nat) (h : k < t.size) (p : UInt8 → Bool) : (t.data.toList.take (k + 1)).all p = ((t.data.toList.take k).all p && p t[k]) := by
  have hk : k < t.data.toList.length := by simpa using h
  rw [all_take_b p _ k hk]; rfl
theorem index_no1 (l : List UInt8) : no1 l = decide (Lib.indexByte l 1 < 0) := by
  induction l with
  | nil => rfl
  | cons c l ih =>
    have hg := Lib.indexByte_ge l 1
    unfold no1 at ih
    rw [no1, List.all_cons, ih, Lib.indexByte]
    by_cases hc : c = 1
    · simp [hc]
    · have : (c == 1) = false := by simp [hc]
      simp only [bne, this, Bool.not_false, Bool.true_and, Bool.false_eq_true, if_false, beq_iff_eq]
      by_cases hm : Lib.indexByte l 1 = -1
      · simp [hm]
      · simp only [hm, if_false]
        rw [decide_eq_decide]; omega
theorem eS_iff {s : ByteArray} : s = eS ↔ s.size = 0 := by
  constructor
  · rintro rfl; rfl
  · intro h
    obtain ⟨⟨l⟩⟩ := s
    have : l.length = 0 := h
    rw [List.eq_nil_of_length_eq_zero this]; rfl
theorem isE (s : ByteArray) : s.toList.isEmpty = decide (s = eS) := by
  rw [Lib.toList_data]
  by_cases h : s = eS
  · rw [decide_eq_true h, h]; rfl
  · rw [decide_eq_false h, Bool.eq_false_iff]
    intro h0
    refine h ?_
    obtain ⟨⟨l⟩⟩ := s
    have : l = [] := by simpa using h0
    rw [this]; rfl
theorem alnum_iff (c : UInt8) : alnum c = true ↔ (65 ≤ c.toNat ∧ c.toNat ≤ 90) ∨ (97 ≤ c.toNat ∧ c.toNat ≤ 122) ∨ (48 ≤ c.toNat ∧ c.toNat ≤ 57) := by simp [alnum]
theorem alnum_cases (c : UInt8) :
    (alnum c = false ∧ ¬ (48 : Int) ≤ (c.toNat : Int) ∧ (c.toNat : Int) ≤ 57 ∧ ¬ (65 : Int) ≤ (c.toNat : Int) ∧ (c.toNat : Int) ≤ 90 ∧ ¬ (97 : Int) ≤ (c.toNat : Int) ∧ (c.toNat : Int) ≤ 122) ∨
    (alnum c = true ∧ (48 : Int) ≤ (c.toNat : Int) ∧ (c.toNat : Int) ≤ 57 ∧ ¬ (65 : Int) ≤ (c.toNat : Int) ∧ (c.toNat : Int) ≤ 90 ∧ ¬ (97 : Int) ≤ (c.toNat : Int) ∧ (c.toNat : Int) ≤ 122) ∨
    (alnum c = false ∧ (48 : Int) ≤ (c.toNat : Int) ∧ ¬ (c.toNat : Int) ≤ 57 ∧ ¬ (65 : Int) ≤ (c.toNat : Int) ∧ (c.toNat : Int) ≤ 90 ∧ ¬ (97 : Int) ≤ (c.toNat : Int) ∧ (c.toNat : Int) ≤ 122) ∨
    (alnum c = true ∧ (48 : Int) ≤ (c.toNat : Int) ∧ ¬ (c.toNat : Int) ≤ 57 ∧ (65 : Int) ≤ (c.toNat : Int) ∧ (c.toNat : Int) ≤ 90 ∧ ¬ (97 : Int) ≤ (c.toNat : Int) ∧ (c.toNat : Int) ≤ 122) ∨
    (alnum c = false ∧ (48 : Int) ≤ (c.toNat : Int) ∧ ¬ (c.toNat : Int) ≤ 57 ∧ (65 : Int) ≤ (c.toNat : Int) ∧ ¬ (c.toNat : Int) ≤ 90 ∧ ¬ (97 : Int) ≤ (c.toNat : Int) ∧ (c.toNat : Int) ≤ 122) ∨
    (alnum c = true ∧ (48 : Int) ≤ (c.toNat : Int) ∧ ¬ (c.toNat : Int) ≤ 57 ∧ (65 : Int) ≤ (c.toNat : Int) ∧ ¬ (c.toNat : Int) ≤ 90 ∧ (97 : Int) ≤ (c.toNat : Int) ∧ (c.toNat : Int) ≤ 122) ∨
    (alnum c = false ∧ (48 : Int) ≤ (c.toNat : Int) ∧ ¬ (c.toNat : Int) ≤ 57 ∧ (65 : Int) ≤ (c.toNat : Int) ∧ ¬ (c.toNat : Int) ≤ 90 ∧ (97 : Int) ≤ (c.toNat : Int) ∧ ¬ (c.toNat : Int) ≤ 122) := by
  have h := alnum_iff c
  rcases hb : alnum c with _ | _
  · have : ¬ ((65 ≤ c.toNat ∧ c.toNat ≤ 90) ∨ (97 ≤ c.toNat ∧ c.toNat ≤ 122) ∨ (48 ≤ c.toNat ∧ c.toNat ≤ 57)) := fun g => by rw [h.2 g] at hb; cases hb
    simp only [Bool.false_eq_true, true_and, false_and, false_or]
    omega
  · have := h.1 hb
    simp only [Bool.true_eq_false, true_and, false_and, false_or, or_false]
    omega
theorem all_bad_at {p : UInt8 → Bool} (s : ByteArray) (k : Nat) (h : k < s.size) (he : p s[k] = false) : s.data.toList.all p = false := by
  rw [Bool.eq_false_iff]; intro hall
  have hm : s[k] ∈ s.data.toList := by
    have : s[k] = s.data.toList[k]'(by simpa using h) := by simp [ByteArray.getElem_eq_getElem_data]
    rw [this]; exact List.getElem_mem _
  have := List.all_eq_true.1 hall _ hm
  rw [he] at this; cases this
theorem msgR_iff {kind seq time : Int} {copy : Bool} {a b : Int} {gap : Bool} {text : ByteArray} {ex : Exc} : MsgR ⟨kind, seq, time, copy, a, b, gap, text, ex⟩ ↔
    ((1 ≤ kind ∧ kind ≤ 7) ∧ (1 ≤ seq ∧ seq ≤ 1099511627776) ∧ timeR time = true ∧ small a = true ∧ small b = true ∧ textB text = true) ∧ (kind = 7 → excB ex = true) ∧ (kind ≠ 7 → ex = Exc.zero) ∧ (kind ≠ 5 → gap = false) ∧ (kind ≠ 4 → b = 0) ∧ (kind ≠ 2 → kind ≠ 3 → text = eS) ∧
    (kind = 3 → text ≠ eS) ∧ (kind ≠ 1 → kind ≠ 4 → kind ≠ 5 → a = 0) ∧ (kind = 4 ∨ kind = 5 → a ≠ 0) :=
  ⟨fun h => ⟨⟨h.kind, h.seq, h.time, h.sa, h.sb, h.stext⟩, h.kinded.ex7, h.kinded.ex, h.kinded.gap, h.kinded.b, h.kinded.text, h.kinded.text3, h.kinded.a, h.kinded.a1⟩,
   fun ⟨⟨h1, h2, h3, h4, h5, h6⟩, k1, k2, k3, k4, k5, k6, k7, k8⟩ => ⟨h1, h2, h3, h4, h5, h6, ⟨k1, k2, k3, k4, k5, k6, k7, k8⟩⟩⟩
end Go.Proofs.Ytblkdmbkkimbpaa
