/-
  Layer 2, field: bytes and fields, there and back: plain mathematics.
-/
import Derived.Test.YtcfpchcbiknehaaDoorRFieldMath
namespace Go.Proofs.YtcfpchcbiknehaaDoorR

/-- What stands ahead of the first c, and behind it. -/
def split1 (c : UInt8) : List UInt8 → Option (List UInt8 × List UInt8)
  | [] => none
  | x :: r => if x = c then some ([], r) else (split1 c r).map fun p => (x :: p.1, p.2)
theorem split1_none {c : UInt8} : ∀ {l : List UInt8}, split1 c l = none ↔ c ∉ l
  | [] => by simp [split1]
  | x :: r => by
    have ih := @split1_none c r
    by_cases h : x = c
    · simp [split1, h]
    · have h' : ¬ c = x := fun e => h e.symm
      simp [split1, h, h', ih]
theorem split1_app {c : UInt8} : ∀ {a : List UInt8} {b : List UInt8}, c ∉ a → split1 c (a ++ c :: b) = some (a, b)
  | [], b, _ => by simp [split1]
  | x :: a, b, h => by
    simp only [List.mem_cons, not_or] at h
    have h' : ¬ x = c := fun e => h.1 e.symm
    rw [List.cons_append, split1, if_neg h', split1_app h.2]; rfl
theorem split1_some {c : UInt8} : ∀ {l a b : List UInt8}, split1 c l = some (a, b) → l = a ++ c :: b ∧ c ∉ a
  | [], _, _, h => by simp [split1] at h
  | x :: r, a, b, h => by
    by_cases hx : x = c
    · simp only [split1, hx, if_true, Option.some.injEq, Prod.mk.injEq] at h
      obtain ⟨rfl, rfl⟩ := h
      simp [hx]
    · rw [split1, if_neg hx] at h
      cases hr : split1 c r with
      | none => rw [hr] at h; cases h
      | some p =>
        rw [hr] at h
        simp only [Option.map_some, Option.some.injEq, Prod.mk.injEq] at h
        obtain ⟨rfl, rfl⟩ := h
        have ⟨h1, h2⟩ := split1_some (a := p.1) (b := p.2) hr
        refine ⟨by rw [h1]; simp, ?_⟩
        simp only [List.mem_cons, not_or]
        exact ⟨fun e => hx e.symm, h2⟩
theorem indexByte_split (c : UInt8) : ∀ l : List UInt8, Lib.indexByte l c = match split1 c l with | none => -1 | some p => (p.1.length : Int)
  | [] => rfl
  | x :: r => by
    have ih := indexByte_split c r
    rw [Lib.indexByte, split1]
    by_cases h : x = c
    · simp [h]
    · rw [if_neg h, beq_eq_false_iff_ne.2 h]
      cases hr : split1 c r with
      | none => rw [hr] at ih; simp [ih]
      | some p =>
        rw [hr] at ih
        simp only [Option.map_some, ih, Bool.false_eq_true, if_false, beq_iff_eq]
        rw [if_neg (by omega)]
        simp
theorem index_split (c : UInt8) (l : List UInt8) : Lib.cut l [c] = match split1 c l with | none => (l, [], false) | some p => (p.1, p.2, true) := by
  unfold Lib.cut
  rw [Lib.index_one, indexByte_split]
  cases h : split1 c l with
  | none => rw [if_neg (by simp)]
  | some p =>
    have ⟨h1, h2⟩ := split1_some (a := p.1) (b := p.2) h
    rw [if_pos (by simp)]
    simp only [Int.toNat_natCast, List.length_singleton]
    rw [h1]
    simp

def readF (t : List UInt8) : Option Fld := match split1 61 t with
  | none => none
  | some (a, v) => if parseE a = 0 ∧ rightT (parseV a) = true ∧ rightV v = true then some ⟨parseV a, ⟨v.toArray⟩⟩ else none
def fldB (f : Fld) : List UInt8 := showL f.tag ++ 61 :: (f.val.data.toList ++ [1])
def putL (l : List Fld) : List UInt8 := l.flatMap fldB
def parseL : Nat → Nat → List UInt8 → Except Int (List Fld)
  | 0, _, _ => .ok []
  | k + 1, n, b => match b with
    | [] => .ok []
    | _ :: _ => match split1 1 b with
      | none => .error 2
      | some (t, r) => match readF t with
        | none => .error 3
        | some f => if n = 100 then .error 4 else (parseL k (n + 1) r).map (f :: ·)
def parseF (b : List UInt8) : Except Int (List Fld) := if 65536 < b.length then .error 4 else parseL b.length 0 b
def resL (r : Except Int (List Fld)) : List Fld := match r with | .ok l => l | .error _ => []
def resE (r : Except Int (List Fld)) : Int := match r with | .ok _ => 0 | .error e => e
def putE (l : List Fld) : Int := if 100 < l.length then 4 else if l.all Fld.right then 0 else 1
def putV (l : List Fld) : List UInt8 := if putE l = 0 then putL l else []

theorem rightT_iff {t : Int} : rightT t = true ↔ 1 ≤ t ∧ t ≤ 9999 := by simp [rightT]
theorem right_of_rightT {t : Int} (h : rightT t = true) : right t = true := by have := rightT_iff.1 h; exact right_t (by omega) (by omega)
theorem digB_of_mem_show {t : Int} (h : rightT t = true) : ∀ c ∈ showL t, digB c = true := by
  have ⟨h0, h1⟩ := rightT_iff.1 h
  intro c hc
  unfold showL at hc
  rw [if_pos (right_of_rightT h), Lib.itoa, if_neg (by omega)] at hc
  exact List.all_eq_true.1 (decDigits_all _) c hc
theorem show_len {t : Int} (h : rightT t = true) : (showL t).length ≤ 4 := by
  have ⟨h0, h1⟩ := rightT_iff.1 h
  unfold showL
  rw [if_pos (right_of_rightT h), Lib.itoa, if_neg (by omega)]
  exact decDigits_len 3 _ (by omega)
theorem digB_ne {c d : UInt8} (h : digB c = true) (hd : digB d = false) : ¬ c = d := by rintro rfl; rw [h] at hd; cases hd
theorem rightV_iff {v : List UInt8} : rightV v = true ↔ v ≠ [] ∧ v.length ≤ 256 ∧ 1 ∉ v := by
  unfold rightV no1
  cases v with
  | nil => simp
  | cons a v =>
    simp only [List.isEmpty_cons, Bool.not_false, Bool.true_and, Bool.and_eq_true, decide_eq_true_eq, List.all_eq_true, bne_iff_ne, ne_eq, reduceCtorEq, not_false_eq_true, true_and]
    constructor
    · rintro ⟨h0, h1⟩; exact ⟨h0, fun hm => h1 1 hm rfl⟩
    · rintro ⟨h0, h1⟩; exact ⟨h0, fun x hx e => h1 (e ▸ hx)⟩
theorem readF_some {t : List UInt8} {f : Fld} (h : readF t = some f) : f.right = true ∧ t = showL f.tag ++ 61 :: f.val.data.toList := by
  unfold readF at h
  cases hs : split1 61 t with
  | none => rw [hs] at h; cases h
  | some p =>
    obtain ⟨a, v⟩ := p
    rw [hs] at h
    simp only at h
    by_cases hc : parseE a = 0 ∧ rightT (parseV a) = true ∧ rightV v = true
    · rw [if_pos hc] at h
      injection h with h
      subst h
      have ⟨h1, h2⟩ := split1_some hs
      exact ⟨by simp [Fld.right, hc.2.1, hc.2.2], by rw [h1, show_parse hc.1]⟩
    · rw [if_neg hc] at h; cases h
theorem readF_mk {f : Fld} (h : f.right = true) : readF (showL f.tag ++ 61 :: f.val.data.toList) = some f := by
  simp only [Fld.right, Bool.and_eq_true] at h
  obtain ⟨ht, hv⟩ := h
  unfold readF
  rw [split1_app (fun hm => by have := digB_of_mem_show ht _ hm; revert this; decide)]
  have ⟨e1, e2⟩ := parse_show (right_of_rightT ht)
  simp only [e1, e2]
  rw [if_pos ⟨trivial, ht, hv⟩]
theorem no1_fld {f : Fld} (h : f.right = true) : (1 : UInt8) ∉ showL f.tag ++ 61 :: f.val.data.toList := by
  simp only [Fld.right, Bool.and_eq_true] at h
  obtain ⟨ht, hv⟩ := h
  intro hm
  rcases List.mem_append.1 hm with hm | hm
  · have := digB_of_mem_show ht _ hm; revert this; decide
  · rcases List.mem_cons.1 hm with hm | hm
    · revert hm; decide
    · exact (rightV_iff.1 hv).2.2 hm
theorem fldB_eq (f : Fld) : fldB f = (showL f.tag ++ 61 :: f.val.data.toList) ++ [1] := by simp [fldB]
theorem putL_cons (f : Fld) (l : List Fld) : putL (f :: l) = (showL f.tag ++ 61 :: f.val.data.toList) ++ 1 :: putL l := by
  simp [putL, fldB]
theorem putL_app (a b : List Fld) : putL (a ++ b) = putL a ++ putL b := by simp [putL]
theorem fldB_len {f : Fld} (h : f.right = true) : (fldB f).length ≤ 262 ∧ 0 < (fldB f).length := by
  simp only [Fld.right, Bool.and_eq_true] at h
  have h1 := show_len h.1
  have h2 := (rightV_iff.1 h.2).2.1
  simp only [fldB, List.length_append, List.length_cons, List.length_nil]; omega
theorem putL_len : ∀ {l : List Fld}, l.all Fld.right = true → (putL l).length ≤ 262 * l.length ∧ l.length ≤ (putL l).length
  | [], _ => by simp [putL]
  | f :: l, h => by
    simp only [List.all_cons, Bool.and_eq_true] at h
    have ih := putL_len h.2
    have := fldB_len h.1
    simp only [putL, List.flatMap_cons, List.length_append, List.length_cons] at ih ⊢; omega

theorem parseL_cons {k n : Nat} {b : List UInt8} (hb : b ≠ []) : parseL (k + 1) n b = match split1 1 b with
    | none => .error 2
    | some (t, r) => match readF t with
      | none => .error 3
      | some f => if n = 100 then .error 4 else (parseL k (n + 1) r).map (f :: ·) := by
  cases b with
  | nil => exact absurd rfl hb
  | cons c b => rfl
theorem parseL_nil (k n : Nat) : parseL k n [] = .ok [] := by cases k <;> rfl
theorem map_ok {f : Fld} {r : Except Int (List Fld)} {l : List Fld} (h : r.map (f :: ·) = .ok l) : ∃ l', r = .ok l' ∧ l = f :: l' := by
  cases r with
  | error e => cases h
  | ok l' => exact ⟨l', rfl, by cases h; rfl⟩
/-- What is read was put in just these bytes. -/
theorem parseL_ok : ∀ {k n : Nat} {b : List UInt8} {l : List Fld}, b.length ≤ k → n ≤ 100 → parseL k n b = .ok l → putL l = b ∧ l.all Fld.right = true ∧ n + l.length ≤ 100
  | 0, n, b, l, hk, hn, h => by
    obtain rfl : b = [] := List.eq_nil_of_length_eq_zero (by omega)
    cases h; exact ⟨rfl, rfl, by simpa using hn⟩
  | k + 1, n, b, l, hk, hn, h => by
    by_cases hb : b = []
    · subst hb
      cases h; exact ⟨rfl, rfl, by simpa using hn⟩
    · rw [parseL_cons hb] at h
      cases hs : split1 1 b with
      | none => rw [hs] at h; cases h
      | some p =>
        obtain ⟨t, r⟩ := p
        rw [hs] at h
        simp only at h
        cases hr : readF t with
        | none => rw [hr] at h; cases h
        | some f =>
          rw [hr] at h
          simp only at h
          by_cases h100 : n = 100
          · rw [if_pos h100] at h; cases h
          · rw [if_neg h100] at h
            obtain ⟨l', h', rfl⟩ := map_ok h
            have ⟨e1, _⟩ := split1_some hs
            have ⟨f1, f2⟩ := readF_some hr
            have hlen : r.length + 1 ≤ b.length := by rw [e1]; simp
            have ⟨g1, g2, g3⟩ := parseL_ok (by omega) (by omega) h'
            refine ⟨by rw [putL_cons, g1, e1, f2], by simp [f1, g2], by simp only [List.length_cons]; omega⟩
/-- What is put is read as it was, and what stands behind it is read behind it. -/
theorem parseL_put : ∀ {l : List Fld} {k n : Nat} {b : List UInt8}, l.all Fld.right = true → n + l.length ≤ 100 → (putL l ++ b).length ≤ k →
    ∃ k', b.length ≤ k' ∧ parseL k n (putL l ++ b) = (parseL k' (n + l.length) b).map (l ++ ·)
  | [], k, n, b, _, _, hk => ⟨k, by simpa [putL] using hk, by
      show parseL k n b = (parseL k n b).map (([] : List Fld) ++ ·)
      cases parseL k n b <;> rfl⟩
  | f :: l, 0, n, b, _, _, hk => by rw [putL_cons] at hk; simp at hk
  | f :: l, k + 1, n, b, h, hn, hk => by
    simp only [List.all_cons, Bool.and_eq_true] at h
    simp only [List.length_cons] at hn
    rw [putL_cons, List.append_assoc, List.cons_append] at hk ⊢
    have hk' : (putL l ++ b).length ≤ k := by simp only [List.length_append, List.length_cons] at hk ⊢; omega
    obtain ⟨k', h1, h2⟩ := parseL_put (n := n + 1) h.2 (by omega) hk'
    refine ⟨k', h1, ?_⟩
    rw [parseL_cons (by simp), split1_app (no1_fld h.1)]
    simp only
    rw [readF_mk h.1]
    simp only
    rw [if_neg (by omega), h2, List.length_cons, show n + 1 + l.length = n + (l.length + 1) by omega]
    cases parseL k' (n + (l.length + 1)) b <;> rfl
theorem parseF_put {l : List Fld} (h : l.all Fld.right = true) (hn : l.length ≤ 100) : parseF (putL l) = .ok l := by
  have hl := putL_len h
  unfold parseF
  rw [if_neg (by omega)]
  obtain ⟨k', _, h2⟩ := parseL_put (k := (putL l).length) (n := 0) (b := []) h (by omega) (by simp)
  rw [List.append_nil] at h2
  rw [h2, parseL_nil]
  show Except.ok (l ++ []) = _
  rw [List.append_nil]
/-- A part without a byte 1 behind whole fields ends too early. -/
theorem parseF_part {l : List Fld} {p : List UInt8} (h : l.all Fld.right = true) (hn : l.length ≤ 100) (hp : (1 : UInt8) ∉ p) (h0 : p ≠ []) (hs : (putL l ++ p).length ≤ 65536) : parseF (putL l ++ p) = .error 2 := by
  unfold parseF
  rw [if_neg (by omega)]
  obtain ⟨k', h1, h2⟩ := parseL_put (k := (putL l ++ p).length) (n := 0) (b := p) h (by omega) (Nat.le_refl _)
  rw [h2]
  cases k' with
  | zero => exact absurd (List.eq_nil_of_length_eq_zero (by omega)) h0
  | succ k' => rw [parseL_cons h0, split1_none.2 hp]; rfl
/-- The bytes of fields, cut anywhere: whole fields, and a part without a byte 1. -/
theorem putL_cut : ∀ {l : List Fld} {k : Nat}, l.all Fld.right = true → k ≤ (putL l).length → ∃ (j : Nat) (p : List UInt8), j ≤ l.length ∧ (putL l).take k = putL (l.take j) ++ p ∧ (1 : UInt8) ∉ p ∧ ((putL l).take k).count 1 = j
  | [], k, _, hk => ⟨0, [], by simp, by simp [putL], by simp, by simp [putL]⟩
  | f :: l, k, h, hk => by
    simp only [List.all_cons, Bool.and_eq_true] at h
    have hno := no1_fld h.1
    rw [putL_cons] at hk ⊢
    generalize ht : showL f.tag ++ 61 :: f.val.data.toList = t at *
    by_cases hle : k ≤ t.length
    · refine ⟨0, t.take k, by simp, ?_, fun hm => hno (List.mem_of_mem_take hm), ?_⟩
      · rw [List.take_append_of_le_length hle]; simp [putL]
      · rw [List.take_append_of_le_length hle]
        exact List.count_eq_zero.2 fun hm => hno (List.mem_of_mem_take hm)
    · have hk2 : k - t.length - 1 ≤ (putL l).length := by simp only [List.length_append, List.length_cons] at hk; omega
      obtain ⟨j, p, hj, e, hp, hc⟩ := putL_cut h.2 hk2
      have e0 : (t ++ 1 :: putL l).take k = t ++ 1 :: (putL l).take (k - t.length - 1) := by
        rw [List.take_append, List.take_of_length_le (by omega)]
        congr 1
        rw [show k - t.length = (k - t.length - 1) + 1 by omega, List.take_succ_cons]; rfl
      refine ⟨j + 1, p, by simp; omega, ?_, hp, ?_⟩
      · rw [e0, e, List.take_succ_cons, putL_cons, ht]; simp
      · rw [e0, List.count_append, List.count_cons_self, hc, List.count_eq_zero.2 hno]; omega
end Go.Proofs.YtcfpchcbiknehaaDoorR
