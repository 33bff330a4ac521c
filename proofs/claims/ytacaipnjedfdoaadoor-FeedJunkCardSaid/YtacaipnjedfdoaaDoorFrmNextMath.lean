/-
  Layer 3, frame: what stands at the beginning of a stream's bytes: plain mathematics.
-/
import Derived.Test.YtacaipnjedfdoaaDoorFrmText
namespace Go.Proofs.YtacaipnjedfdoaaDoor

def wholeOf (b : List UInt8) : Nat := 12 + (lenT (b.drop 12)).length + 1 + decA 0 (lenT (b.drop 12)) + 7
def bodyOf (b : List UInt8) : List UInt8 := (b.drop (12 + (lenT (b.drop 12)).length + 1)).take (decA 0 (lenT (b.drop 12)))
/-- Need (0), Frame (1) or Junk (2), the body, and how many bytes. -/
def nxt (b : List UInt8) : Int × List UInt8 × Nat :=
  if starts3 b = true then (0, [], 0)
  else if Lib.hasPrefix b begL = false then (2, [], junkN b)
  else if headK (b.drop 12) = 0 then (0, [], 0)
  else if headK (b.drop 12) = 2 then (2, [], junkN b)
  else if b.length < wholeOf b then (0, [], 0)
  else if frmE (bodyOf b) = 0 ∧ frmV (bodyOf b) = b.take (wholeOf b) then (1, bodyOf b, wholeOf b)
  else (2, [], junkN b)
/-- Every way that there is. -/
theorem nxt_cases (b : List UInt8) :
    (starts3 b = true ∧ nxt b = (0, [], 0)) ∨
    (starts3 b = false ∧ Lib.hasPrefix b begL = false ∧ nxt b = (2, [], junkN b)) ∨
    (starts3 b = false ∧ Lib.hasPrefix b begL = true ∧ headK (b.drop 12) = 0 ∧ nxt b = (0, [], 0)) ∨
    (starts3 b = false ∧ Lib.hasPrefix b begL = true ∧ headK (b.drop 12) = 2 ∧ nxt b = (2, [], junkN b)) ∨
    (starts3 b = false ∧ Lib.hasPrefix b begL = true ∧ headK (b.drop 12) = 1 ∧
      ((b.length < wholeOf b ∧ nxt b = (0, [], 0)) ∨
       (wholeOf b ≤ b.length ∧ frmE (bodyOf b) = 0 ∧ frmV (bodyOf b) = b.take (wholeOf b) ∧ nxt b = (1, bodyOf b, wholeOf b)) ∨
       (wholeOf b ≤ b.length ∧ ¬ (frmE (bodyOf b) = 0 ∧ frmV (bodyOf b) = b.take (wholeOf b)) ∧ nxt b = (2, [], junkN b)))) := by
  unfold nxt
  rcases Bool.eq_false_or_eq_true (starts3 b) with h1 | h1
  · left; rw [if_pos h1]; exact ⟨h1, rfl⟩
  · right
    rw [if_neg (by rw [h1]; decide)]
    rcases Bool.eq_false_or_eq_true (Lib.hasPrefix b begL) with h2 | h2
    · right
      rw [if_neg (by rw [h2]; decide)]
      rcases headK_le (b.drop 12) with h3 | h3 | h3
      · left; rw [if_pos h3]; exact ⟨h1, h2, h3, rfl⟩
      · right; right
        rw [if_neg (by rw [h3]; decide), if_neg (by rw [h3]; decide)]
        refine ⟨h1, h2, h3, ?_⟩
        by_cases h4 : b.length < wholeOf b
        · left; rw [if_pos h4]; exact ⟨h4, rfl⟩
        · right
          rw [if_neg h4]
          by_cases h5 : frmE (bodyOf b) = 0 ∧ frmV (bodyOf b) = b.take (wholeOf b)
          · left; rw [if_pos h5]; exact ⟨by omega, h5.1, h5.2, rfl⟩
          · right; rw [if_neg h5]; exact ⟨by omega, h5, rfl⟩
      · right; left
        rw [if_neg (by rw [h3]; decide), if_pos h3]; exact ⟨h1, h2, h3, rfl⟩
    · left; rw [if_pos h2]; exact ⟨h1, h2, rfl⟩
theorem nxt_h0 {b : List UInt8} (h1 : starts3 b = false) (h2 : Lib.hasPrefix b begL = true) (h3 : headK (b.drop 12) = 0) : nxt b = (0, [], 0) := by unfold nxt; rw [h1, h2, h3]; rfl
theorem nxt_h2 {b : List UInt8} (h1 : starts3 b = false) (h2 : Lib.hasPrefix b begL = true) (h3 : headK (b.drop 12) = 2) : nxt b = (2, [], junkN b) := by unfold nxt; rw [h1, h2, h3]; rfl
theorem nxt_h1 {b : List UInt8} (h1 : starts3 b = false) (h2 : Lib.hasPrefix b begL = true) (h3 : headK (b.drop 12) = 1) :
    nxt b = if b.length < wholeOf b then (0, [], 0) else if frmE (bodyOf b) = 0 ∧ frmV (bodyOf b) = b.take (wholeOf b) then (1, bodyOf b, wholeOf b) else (2, [], junkN b) := by unfold nxt; rw [h1, h2, h3]; rfl
theorem not_starts_ne {b : List UInt8} (h : starts3 b = false) : b ≠ [] := by rintro rfl; cases h
theorem body_len {b : List UInt8} (h : wholeOf b ≤ b.length) : (bodyOf b).length = decA 0 (lenT (b.drop 12)) := by
  unfold wholeOf at h
  unfold bodyOf
  rw [List.length_take, List.length_drop]; omega
theorem pre_beg {b : List UInt8} (h : Lib.hasPrefix b begL = true) : b = begL ++ b.drop 12 ∧ 12 ≤ b.length := by
  have h1 := pre_take.1 h
  rw [begL_len] at h1
  have h2 := congrArg List.length h1
  rw [List.length_take, begL_len] at h2
  refine ⟨?_, by omega⟩
  conv => lhs; rw [← List.take_append_drop 12 b, h1]
/-- What Next may say, in all. -/
theorem nxt_sound (b : List UInt8) : (nxt b = (0, [], 0)) ∨ (nxt b = (2, [], junkN b) ∧ 1 ≤ junkN b ∧ junkN b ≤ b.length) ∨
    ∃ x n, nxt b = (1, x, n) ∧ frmE x = 0 ∧ frmV x = b.take n ∧ 1 ≤ n ∧ n ≤ b.length ∧ x.length ≤ n := by
  rcases nxt_cases b with ⟨_, h⟩ | ⟨h1, _, h⟩ | ⟨_, _, _, h⟩ | ⟨h1, _, _, h⟩ | ⟨h1, h2, h3, h | h | h⟩
  · exact .inl h
  · exact .inr (.inl ⟨h, junk_pos b, junk_len (not_starts_ne h1)⟩)
  · exact .inl h
  · exact .inr (.inl ⟨h, junk_pos b, junk_len (not_starts_ne h1)⟩)
  · exact .inl h.2
  · obtain ⟨g1, g2, g3, g4⟩ := h
    have := body_len g1
    exact .inr (.inr ⟨_, _, g4, g2, g3, by unfold wholeOf; omega, g1, by rw [this]; unfold wholeOf; omega⟩)
  · exact .inr (.inl ⟨h.2.2, junk_pos b, junk_len (not_starts_ne h1)⟩)
/-- A frame, whatever stands behind it, up to the length's end. -/
theorem frm_parts (x : List UInt8) (more : List UInt8) : (frmB x ++ more).drop 12 = Lib.decDigits x.length ++ 1 :: (x ++ ([49, 48, 61] ++ dig3 (sumN (headB x)) ++ [1] ++ more)) := by
  have : frmB x ++ more = begL ++ (Lib.decDigits x.length ++ 1 :: (x ++ ([49, 48, 61] ++ dig3 (sumN (headB x)) ++ [1] ++ more))) := by simp [frmB, headB]
  rw [this]; exact List.drop_left' rfl
theorem digs_of {d rest : List UInt8} (hd : d.length ≤ 4) (h1 : (1 : UInt8) ∉ d) : digsOf (d ++ 1 :: rest) = (d, true) := by
  unfold digsOf
  have : (d ++ 1 :: rest).take 5 = d ++ 1 :: rest.take (4 - d.length) := by
    rw [List.take_append, List.take_of_length_le (by omega), show 5 - d.length = (4 - d.length) + 1 by omega, List.take_succ_cons]
  rw [this, split1_app h1]
theorem starts_long {b : List UInt8} (h : 12 ≤ b.length) : starts3 b = false := by unfold starts3; rw [decide_eq_false (by omega)]; rfl
theorem beg_pre {r : List UInt8} : Lib.hasPrefix (begL ++ r) begL = true := pre_take.2 (by rw [List.take_left])
theorem frm_beg (x : List UInt8) : ∃ r, frmB x = begL ++ r := ⟨Lib.decDigits x.length ++ [1] ++ x ++ [49, 48, 61] ++ dig3 (sumN (headB x)) ++ [1], by simp [frmB, headB]⟩
theorem len_digits {x : List UInt8} (h : frmR x = true) : (Lib.decDigits x.length).length ≤ 4 ∧ (1 : UInt8) ∉ Lib.decDigits x.length ∧ lenB (Lib.decDigits x.length) = true ∧ decA 0 (Lib.decDigits x.length) = x.length := by
  have ⟨h1, h2⟩ := frmR_len h
  have ⟨h3, h4⟩ := lenB_dec h1 h2
  exact ⟨decDigits_le4 h2, lenB_no1 h3, h3, h4⟩
/-- What is put is found, whatever stands behind it. -/
theorem nxt_found {x : List UInt8} (h : frmR x = true) (more : List UInt8) : nxt (frmB x ++ more) = (1, x, (frmB x).length) := by
  obtain ⟨h1, h2, h3, h4⟩ := len_digits h
  obtain ⟨r, hr⟩ := frm_beg x
  have hl := frmB_len x
  have hd := digs_of h1 h2 (rest := x ++ ([49, 48, 61] ++ dig3 (sumN (headB x)) ++ [1] ++ more))
  rw [← frm_parts] at hd
  have ht : lenT ((frmB x ++ more).drop 12) = Lib.decDigits x.length := by unfold lenT; rw [hd]
  have hk : headK ((frmB x ++ more).drop 12) = 1 := by
    rcases headK_some hd with ⟨g, _⟩ | ⟨_, g⟩
    · exact g
    · rw [h3] at g; cases g
  have hw : wholeOf (frmB x ++ more) = (frmB x).length := by unfold wholeOf; rw [ht, h4, hl]
  have hb : bodyOf (frmB x ++ more) = x := by
    unfold bodyOf
    rw [ht, h4, Nat.add_assoc, ← List.drop_drop, frm_parts]
    have e : Lib.decDigits x.length ++ 1 :: (x ++ ([49, 48, 61] ++ dig3 (sumN (headB x)) ++ [1] ++ more)) = (Lib.decDigits x.length ++ [1]) ++ (x ++ ([49, 48, 61] ++ dig3 (sumN (headB x)) ++ [1] ++ more)) := by simp
    rw [e, List.drop_left' (by simp), List.take_left]
  have hge : 12 ≤ (frmB x).length := by rw [hl]; omega
  obtain ⟨he, hv⟩ := frmE_ok h
  unfold nxt
  rw [if_neg (by rw [starts_long (by rw [List.length_append]; omega)]; decide), if_neg (by rw [hr, List.append_assoc, beg_pre]; decide), if_neg (by rw [hk]; decide), if_neg (by rw [hk]; decide), hw, hb, if_neg (by rw [List.length_append]; omega),
    if_pos ⟨he, by rw [hv, List.take_left]⟩]
/-- Cut off anywhere, it is but the first bytes of one. -/
theorem nxt_part {x : List UInt8} (h : frmR x = true) {k : Nat} (hk : k < (frmB x).length) : nxt ((frmB x).take k) = (0, [], 0) := by
  obtain ⟨h1, h2, h3, h4⟩ := len_digits h
  obtain ⟨r, hr⟩ := frm_beg x
  have hl := frmB_len x
  have hlk : ((frmB x).take k).length = k := by rw [List.length_take]; omega
  by_cases h12 : k < 12
  · have : starts3 ((frmB x).take k) = true := by
      unfold starts3
      rw [Bool.and_eq_true, decide_eq_true_eq, pre_take]
      refine ⟨by omega, ?_⟩
      rw [hlk, hr, List.take_append, show k - begL.length = 0 by rw [begL_len]; omega, List.take_zero, List.append_nil]
    unfold nxt
    rw [if_pos this]
  · have hp : Lib.hasPrefix ((frmB x).take k) begL = true := by
      rw [hr, List.take_append, List.take_of_length_le (by rw [begL_len]; omega)]
      exact beg_pre
    have hdrop : ((frmB x).take k).drop 12 = (Lib.decDigits x.length ++ 1 :: (x ++ ([49, 48, 61] ++ dig3 (sumN (headB x)) ++ [1]))).take (k - 12) := by
      rw [List.drop_take]
      have := frm_parts x []
      rw [List.append_nil, List.append_nil] at this
      rw [this]
    have hs := starts_long (b := (frmB x).take k) (by omega)
    by_cases hkd : k - 12 ≤ (Lib.decDigits x.length).length
    · have hz : headK (((frmB x).take k).drop 12) = 0 := by
        rw [hdrop, List.take_append, show k - 12 - (Lib.decDigits x.length).length = 0 by omega, List.take_zero, List.append_nil]
        have hno : (1 : UInt8) ∉ ((Lib.decDigits x.length).take (k - 12)).take 5 := fun hm => h2 (List.mem_of_mem_take (List.mem_of_mem_take hm))
        have hd5 : digsOf ((Lib.decDigits x.length).take (k - 12)) = (((Lib.decDigits x.length).take (k - 12)).take 5, false) := by
          unfold digsOf; rw [split1_none.2 hno]
        have e5 : ((Lib.decDigits x.length).take (k - 12)).take 5 = (Lib.decDigits x.length).take (k - 12) := List.take_of_length_le (by rw [List.length_take]; omega)
        rcases headK_none hd5 with ⟨g, _⟩ | ⟨_, g1, g2⟩
        · exact g
        · rw [e5] at g1
          by_cases h0 : k - 12 = 0
          · rw [h0, List.take_zero] at g2; exact absurd rfl g2
          · rw [lenB_take h3 (by omega)] at g1; cases g1
      unfold nxt
      rw [if_neg (by rw [hs]; decide), if_neg (by rw [hp]; decide), if_pos hz]
    · have hd := digs_of h1 h2 (rest := (x ++ ([49, 48, 61] ++ dig3 (sumN (headB x)) ++ [1])).take (k - 12 - (Lib.decDigits x.length).length - 1))
      have e : ((frmB x).take k).drop 12 = Lib.decDigits x.length ++ 1 :: (x ++ ([49, 48, 61] ++ dig3 (sumN (headB x)) ++ [1])).take (k - 12 - (Lib.decDigits x.length).length - 1) := by
        rw [hdrop, List.take_append, List.take_of_length_le (by omega)]
        obtain ⟨m, hm⟩ : ∃ m, k - 12 - (Lib.decDigits x.length).length = m + 1 := ⟨k - 12 - (Lib.decDigits x.length).length - 1, by omega⟩
        rw [hm, List.take_succ_cons]; rfl
      rw [← e] at hd
      have ht : lenT (((frmB x).take k).drop 12) = Lib.decDigits x.length := by unfold lenT; rw [hd]
      have hk1 : headK (((frmB x).take k).drop 12) = 1 := by
        rcases headK_some hd with ⟨g, _⟩ | ⟨_, g⟩
        · exact g
        · rw [h3] at g; cases g
      have hw : wholeOf ((frmB x).take k) = (frmB x).length := by unfold wholeOf; rw [ht, h4, hl]
      unfold nxt
      rw [if_neg (by rw [hs]; decide), if_neg (by rw [hp]; decide), if_neg (by rw [hk1]; decide), if_neg (by rw [hk1]; decide), hw, if_pos (by rw [hlk]; exact hk)]
/-- Behind junk without an 8 it is found, too. -/
theorem nxt_junk {j x : List UInt8} (h8 : (56 : UInt8) ∉ j) (hj : j ≠ []) (more : List UInt8) : nxt (j ++ (frmB x ++ more)) = (2, [], j.length) := by
  obtain ⟨r, hr⟩ := frm_beg x
  have hl := frmB_len x
  have hno : ∀ i, i < j.length → begs ((j ++ (frmB x ++ more)).drop i) = false := fun i hi => by
    rw [Bool.eq_false_iff]; intro hb
    have := begs_at hb (i := 0) (by omega) (by rw [List.length_drop, List.length_append]; omega)
    rw [List.getElem?_drop, Nat.add_zero, List.getElem?_append_left hi, List.getElem?_eq_getElem hi] at this
    injection this with this
    exact h8 (this ▸ List.getElem_mem hi)
  have h0 := hno 0 (List.length_pos_iff.2 hj)
  rw [List.drop_zero] at h0
  have hjn : junkN (j ++ (frmB x ++ more)) = j.length := by
    refine junk_eq (List.length_pos_iff.2 hj) ?_ fun i _ hi => hno i hi
    rw [List.drop_left]
    unfold begs
    rw [hr, List.append_assoc]
    have : begL.isPrefixOf (begL ++ (r ++ more)) = true := beg_pre
    rw [this]; rfl
  unfold begs at h0
  rw [Bool.or_eq_false_iff] at h0
  unfold nxt
  rw [if_neg (by rw [h0.2]; decide), if_pos (show Lib.hasPrefix _ begL = false from h0.1), hjn]
end Go.Proofs.YtacaipnjedfdoaaDoor
