/-
  Layer 8, crc: records: put, read, one behind the other, cut, spoilt: plain mathematics.
-/
import Derived.Test.YtaimciblkimgkaaCrcMath
namespace Go.Proofs.Ytaimciblkimgkaa

/-- A length's two bytes, a sum's four. -/
def be2 (n : Nat) : List UInt8 := [UInt8.ofNat (n / 256), UInt8.ofNat (n % 256)]
def be4 (s : Nat) : List UInt8 := [UInt8.ofNat (s / 16777216), UInt8.ofNat (s / 65536 % 256), UInt8.ofNat (s / 256 % 256), UInt8.ofNat (s % 256)]
def recSum (r : List UInt8) : Nat := sumC (be2 r.length ++ r)
def putC (r : List UInt8) : List UInt8 := be2 r.length ++ (be4 (recSum r) ++ r)
theorem putC_len (r : List UInt8) : (putC r).length = r.length + 6 := by simp [putC, be2, be4]
theorem u8_nat {n : Nat} (h : n < 256) : (UInt8.ofNat n).toNat = n := by simp; omega
/-- The record at the beginning: it, how many bytes it takes, what is wrong. -/
def lenC (b : List UInt8) : Nat := match b with
  | h :: l :: _ => h.toNat * 256 + l.toNat
  | _ => 0
def nextC (b : List UInt8) : List UInt8 × Nat × Int :=
  if b.length < 6 then ([], 0, 2)
  else if lenC b = 0 ∨ 4096 < lenC b then ([], 0, 3)
  else if b.length < 6 + lenC b then ([], 0, 2)
  else if (b.drop 2).take 4 = be4 (sumC (b.take 2 ++ (b.drop 6).take (lenC b))) then ((b.drop 6).take (lenC b), 6 + lenC b, 0)
  else ([], 0, 11)
theorem lenC_be2 {n : Nat} (h : n < 65536) (r : List UInt8) : lenC (be2 n ++ r) = n := by
  show (UInt8.ofNat (n / 256)).toNat * 256 + (UInt8.ofNat (n % 256)).toNat = n
  rw [u8_nat (by omega), u8_nat (by omega)]
  omega
theorem put_parts (r t : List UInt8) : (putC r ++ t).take 2 = be2 r.length ∧ ((putC r ++ t).drop 2).take 4 = be4 (recSum r) ∧ ((putC r ++ t).drop 6).take r.length = r ∧ (putC r ++ t).drop (6 + r.length) = t := by
  refine ⟨rfl, rfl, ?_, ?_⟩
  · show (r ++ t).take r.length = r
    simp
  · have h : (r ++ t).drop r.length = t := by simp
    have : (putC r ++ t).drop (6 + r.length) = ((putC r ++ t).drop 6).drop r.length := by rw [List.drop_drop]
    rw [this]
    exact h
theorem next_put {r : List UInt8} (h : 1 ≤ r.length ∧ r.length ≤ 4096) (t : List UInt8) : nextC (putC r ++ t) = (r, 6 + r.length, 0) := by
  obtain ⟨h1, h2, h3, _⟩ := put_parts r t
  have hl : lenC (putC r ++ t) = r.length := by
    show lenC (be2 r.length ++ _) = _
    exact lenC_be2 (by omega) _
  unfold nextC
  rw [hl, if_neg (by rw [List.length_append, putC_len]; omega), if_neg (by omega), if_neg (by rw [List.length_append, putC_len]; omega), h1, h2, h3]
  exact if_pos rfl
/-- One record cut short. -/
theorem next_cut {r : List UInt8} (h : 1 ≤ r.length ∧ r.length ≤ 4096) {k : Nat} (hk : k < (putC r).length) (t : List UInt8) : nextC ((putC r ++ t).take k) = ([], 0, 2) := by
  have hL := putC_len r
  have hlen : ((putC r ++ t).take k).length = k := by rw [List.length_take, List.length_append]; omega
  unfold nextC
  rw [hlen]
  by_cases h6 : k < 6
  · rw [if_pos h6]
  · rw [if_neg h6]
    have hl : lenC ((putC r ++ t).take k) = r.length := by
      obtain ⟨k', rfl⟩ : ∃ k', k = k' + 2 := ⟨k - 2, by omega⟩
      show lenC (be2 r.length ++ _) = _
      exact lenC_be2 (by omega) _
    rw [hl, if_neg (by omega), if_pos (by omega)]
/-- The records at the beginning, one behind the other. -/
def allC : Nat → List UInt8 → List (List UInt8) × Nat
  | 0, _ => ([], 0)
  | f + 1, b => if (nextC b).2.2 = 0 then ((nextC b).1 :: (allC f (b.drop (nextC b).2.1)).1, (nextC b).2.1 + (allC f (b.drop (nextC b).2.1)).2) else ([], 0)
def putsC (l : List (List UInt8)) : List UInt8 := l.flatMap putC
theorem next_nil : nextC [] = ([], 0, 2) := rfl
/-- Cut anywhere, all whole ones are told. -/
theorem all_cut : ∀ (l : List (List UInt8)) (k f : Nat), (∀ r ∈ l, 1 ≤ r.length ∧ r.length ≤ 4096) → k ≤ (putsC l).length → l.length < f →
    ∃ n, n ≤ l.length ∧ allC f ((putsC l).take k) = (l.take n, (putsC (l.take n)).length) ∧ (putsC (l.take n)).length ≤ k ∧ (n < l.length → k < (putsC (l.take (n + 1))).length)
  | [], k, f, _, _, hf => by
    obtain ⟨f, rfl⟩ : ∃ g, f = g + 1 := ⟨f - 1, by simp at hf; omega⟩
    refine ⟨0, Nat.le_refl _, ?_, Nat.zero_le _, fun h => absurd h (by simp)⟩
    show allC (f + 1) (([] : List UInt8).take k) = _
    rw [List.take_nil]
    rfl
  | r :: l, k, f, h, hk, hf => by
    obtain ⟨f, rfl⟩ : ∃ g, f = g + 1 := ⟨f - 1, by simp at hf; omega⟩
    have hr := h r (List.mem_cons_self ..)
    have hp : putsC (r :: l) = putC r ++ putsC l := rfl
    have hL := putC_len r
    rw [hp] at hk ⊢
    rw [List.length_append] at hk
    by_cases hc : k < (putC r).length
    · refine ⟨0, Nat.zero_le _, ?_, Nat.zero_le _, fun _ => ?_⟩
      · unfold allC
        rw [next_cut hr hc]
        rfl
      · show k < (putC r ++ putsC (l.take 0)).length
        rw [List.length_append]; omega
    · have hta : (putC r ++ putsC l).take k = putC r ++ (putsC l).take (k - (putC r).length) := by
        rw [List.take_append, List.take_of_length_le (Nat.le_of_not_lt hc)]
      obtain ⟨n, hn, he, hle, hlt⟩ := all_cut l (k - (putC r).length) f (fun x hx => h x (List.mem_cons_of_mem _ hx)) (by omega) (by simp at hf; omega)
      have hd := (put_parts r ((putsC l).take (k - (putC r).length))).2.2.2
      refine ⟨n + 1, by simp; omega, ?_, ?_, fun h2 => ?_⟩
      · rw [hta]
        unfold allC
        rw [next_put hr]
        dsimp only
        rw [if_pos rfl, hd, he]
        show (r :: l.take n, _) = (r :: l.take n, (putC r ++ putsC (l.take n)).length)
        rw [List.length_append, hL, Nat.add_comm 6]
      · show (putC r ++ putsC (l.take n)).length ≤ k
        rw [List.length_append]; omega
      · have := hlt (by simp at h2; omega)
        show k < (putC r ++ putsC (l.take (n + 1))).length
        rw [List.length_append]; omega
/-- Whole, all are. -/
theorem all_whole (l : List (List UInt8)) (f : Nat) (h : ∀ r ∈ l, 1 ≤ r.length ∧ r.length ≤ 4096) (hf : l.length < f) : allC f (putsC l) = (l, (putsC l).length) := by
  obtain ⟨n, hn, he, hle, hlt⟩ := all_cut l (putsC l).length f h (Nat.le_refl _) hf
  rw [List.take_length] at he
  by_cases hnl : n < l.length
  · have h1 := hlt hnl
    have h2 : ∀ (a b : List (List UInt8)), (putsC a).length ≤ (putsC (a ++ b)).length := fun a b => by
      unfold putsC; rw [List.flatMap_append, List.length_append]; omega
    have h3 := h2 (l.take (n + 1)) (l.drop (n + 1))
    rw [List.take_append_drop] at h3
    omega
  · rw [he, List.take_of_length_le (by omega)]
/-- A number's four bytes tell it. -/
theorem be4_inj {a b : Nat} (ha : a < 4294967296) (hb : b < 4294967296) (h : be4 a = be4 b) : a = b := by
  unfold be4 at h
  simp only [List.cons.injEq, and_true] at h
  obtain ⟨h1, h2, h3, h4⟩ := h
  have k1 := congrArg UInt8.toNat h1
  have k2 := congrArg UInt8.toNat h2
  have k3 := congrArg UInt8.toNat h3
  have k4 := congrArg UInt8.toNat h4
  rw [u8_nat (by omega), u8_nat (by omega)] at k1
  rw [u8_nat (by omega), u8_nat (by omega)] at k2
  rw [u8_nat (by omega), u8_nat (by omega)] at k3
  rw [u8_nat (by omega), u8_nat (by omega)] at k4
  omega
/-- One byte of its sum, or of its bytes, is another one. -/
theorem next_spoilt {r : List UInt8} (h : 1 ≤ r.length ∧ r.length ≤ 4096) {k : Nat} (hk : 2 ≤ k ∧ k < (putC r).length) {d : UInt8} (hd : (putC r)[k]? ≠ some d) : nextC ((putC r).set k d) = ([], 0, 11) := by
  have hL := putC_len r
  obtain ⟨j, rfl⟩ : ∃ j, k = j + 2 := ⟨k - 2, by omega⟩
  have hs : (putC r).set (j + 2) d = be2 r.length ++ (be4 (recSum r) ++ r).set j d := rfl
  have hg : (putC r)[j + 2]? = (be4 (recSum r) ++ r)[j]? := rfl
  rw [hg] at hd
  rw [hs]
  have hlen : (be2 r.length ++ (be4 (recSum r) ++ r).set j d).length = r.length + 6 := by simp [be2, be4]
  have hl : lenC (be2 r.length ++ (be4 (recSum r) ++ r).set j d) = r.length := lenC_be2 (by omega) _
  unfold nextC
  rw [hl, hlen, if_neg (by omega), if_neg (by omega), if_neg (by omega)]
  refine if_neg fun he => ?_
  have h2 : (be2 r.length ++ (be4 (recSum r) ++ r).set j d).take 2 = be2 r.length := rfl
  have h3 : (be2 r.length ++ (be4 (recSum r) ++ r).set j d).drop 2 = (be4 (recSum r) ++ r).set j d := rfl
  have h4 : (be2 r.length ++ (be4 (recSum r) ++ r).set j d).drop 6 = ((be4 (recSum r) ++ r).set j d).drop 4 := rfl
  rw [h2, h3, h4] at he
  by_cases hj : j < 4
  · have e1 : (be4 (recSum r) ++ r).set j d = (be4 (recSum r)).set j d ++ r := by rw [List.set_append_left _ _ (by show j < 4; exact hj)]
    rw [e1] at he
    have hl4 : ((be4 (recSum r)).set j d).length = 4 := by rw [List.length_set]; rfl
    rw [List.take_append_of_le_length (by omega), List.take_of_length_le (by omega), List.drop_append_of_le_length (by omega), List.drop_of_length_le (by omega), List.nil_append, List.take_of_length_le (by omega)] at he
    have h5 : ((be4 (recSum r)).set j d)[j]? = (be4 (recSum r))[j]? := by rw [he]; rfl
    rw [List.getElem?_set_self (by show j < 4; exact hj)] at h5
    refine hd ?_
    rw [List.getElem?_append_left (by show j < 4; exact hj)]
    exact h5.symm
  · have h4l : (be4 (recSum r)).length = 4 := rfl
    have e1 : (be4 (recSum r) ++ r).set j d = be4 (recSum r) ++ r.set (j - 4) d := by rw [List.set_append_right _ _ (by omega), h4l]
    rw [e1] at he
    rw [List.take_append_of_le_length (by omega), List.take_of_length_le (by omega)] at he
    have e2 : (be4 (recSum r) ++ r.set (j - 4) d).drop 4 = r.set (j - 4) d := rfl
    rw [e2, List.take_of_length_le (by rw [List.length_set]; exact Nat.le_refl _)] at he
    have h6 := be4_inj (sumC_lt _) (sumC_lt _) he
    have hjl : j - 4 < r.length := by omega
    rw [List.getElem?_append_right (by omega), h4l, List.getElem?_eq_getElem hjl] at hd
    have hrs : r = r.take (j - 4) ++ r[j - 4] :: r.drop (j - 4 + 1) := by rw [← List.drop_eq_getElem_cons hjl, List.take_append_drop]
    have hrt : r.set (j - 4) d = r.take (j - 4) ++ d :: r.drop (j - 4 + 1) := List.set_eq_take_append_cons_drop .. |>.trans (if_pos hjl)
    have h7 : sumC (be2 r.length ++ r) = sumC ((be2 r.length ++ r.take (j - 4)) ++ r[j - 4] :: r.drop (j - 4 + 1)) := by rw [List.append_assoc, ← hrs]
    rw [hrt, h7, ← List.append_assoc] at h6
    exact sumC_ne (fun e => hd (by rw [e])) h6
end Go.Proofs.Ytaimciblkimgkaa
