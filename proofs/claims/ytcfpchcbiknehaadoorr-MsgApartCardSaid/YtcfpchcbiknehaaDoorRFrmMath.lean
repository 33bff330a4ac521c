/-
  Layer 3, frame: what the document says, as functions of lists of bytes: plain mathematics.
-/
import Derived.Test.YtcfpchcbiknehaaDoorRTextBack
import Derived.Test.YtcfpchcbiknehaaDoorRFieldRefText
import Derived.Lib.Index
namespace Go.Proofs.YtcfpchcbiknehaaDoorR

def begL : List UInt8 := [56, 61, 70, 73, 88, 46, 52, 46, 52, 1, 57, 61]
theorem begL_len : begL.length = 12 := rfl
def sumN (l : List UInt8) : Nat := l.foldl (fun s c => (s + c.toNat) % 256) 0
theorem sumN_from (l : List UInt8) : ∀ s, s < 256 → l.foldl (fun s c => (s + c.toNat) % 256) s = (s + sumN l) % 256 := by
  induction l with
  | nil => intro s hs; simp [sumN]; omega
  | cons c r ih =>
    intro s hs
    unfold sumN
    rw [List.foldl_cons, List.foldl_cons, ih _ (Nat.mod_lt _ (by omega)), ih _ (Nat.mod_lt _ (by omega))]
    omega
theorem sumN_app (a b : List UInt8) : sumN (a ++ b) = (sumN a + sumN b) % 256 := by
  unfold sumN
  rw [List.foldl_append]
  refine sumN_from b _ ?_
  cases h : a.reverse with
  | nil => have : a = [] := by simpa using h
           subst this; simp
  | cons c r => have : a = r.reverse ++ [c] := by have := congrArg List.reverse h; simpa using this
                rw [this, List.foldl_append]; simp; omega
theorem sumN_one (c : UInt8) : sumN [c] = c.toNat := by
  have := c.toNat_lt
  simp [sumN]
theorem sumN_nil : sumN [] = 0 := rfl
theorem sumN_lt (a : List UInt8) : sumN a < 256 := by
  have h := sumN_app a []
  rw [List.append_nil] at h
  rw [h]; exact Nat.mod_lt _ (by omega)
theorem sumN_take (l : List UInt8) (k : Nat) (h : k < l.length) : sumN (l.take (k + 1)) = (sumN (l.take k) + l[k].toNat) % 256 := by
  rw [List.take_succ_eq_append_getElem h, sumN_app, sumN_one]
theorem sumN_turn (l : List UInt8) (k : Nat) (h : k < l.length) (d : UInt8) : sumN (l.set k (l[k] + d)) = (sumN l + d.toNat) % 256 := by
  have e1 : l = l.take k ++ ([l[k]] ++ l.drop (k + 1)) := by simp
  have e2 : l.set k (l[k] + d) = l.take k ++ ([l[k] + d] ++ l.drop (k + 1)) := by rw [List.set_eq_take_append_cons_drop, if_pos h]; rfl
  rw [e2]
  conv => rhs; rw [e1]
  simp only [sumN_app, sumN_one]
  rw [UInt8.toNat_add]
  omega

def ownT (t : Int) : Bool := decide (t = 8) || (decide (t = 9) || decide (t = 10))
def ownFree (l : List Fld) : Bool := l.all fun f => !ownT f.tag
/-- May the bytes be a body? -/
def frmR (b : List UInt8) : Bool := decide (1 ≤ b.length ∧ b.length ≤ 8000) && (decide (resE (parseF b) = 0) && ownFree (resL (parseF b)))
def dig3 (s : Nat) : List UInt8 := [UInt8.ofNat (48 + s / 100), UInt8.ofNat (48 + s / 10 % 10), UInt8.ofNat (48 + s % 10)]
def headB (b : List UInt8) : List UInt8 := begL ++ Lib.decDigits b.length ++ [1] ++ b
/-- A body's frame. -/
def frmB (b : List UInt8) : List UInt8 := headB b ++ [49, 48, 61] ++ dig3 (sumN (headB b)) ++ [1]
def frmE (b : List UInt8) : Int := if 8000 < b.length then 4 else if frmR b then 0 else 1
def frmV (b : List UInt8) : List UInt8 := if frmE b = 0 then frmB b else []
theorem frmR_len {b : List UInt8} (h : frmR b = true) : 1 ≤ b.length ∧ b.length ≤ 8000 := by
  unfold frmR at h
  simp only [Bool.and_eq_true, decide_eq_true_eq] at h
  exact h.1
theorem frmE_long {b : List UInt8} (h : 8000 < b.length) : frmE b = 4 ∧ frmV b = [] := by
  have h1 : frmE b = 4 := if_pos h
  exact ⟨h1, by unfold frmV; rw [h1]; rfl⟩
theorem frmE_arg {b : List UInt8} (h : ¬ 8000 < b.length) (hr : frmR b = false) : frmE b = 1 ∧ frmV b = [] := by
  have h1 : frmE b = 1 := by unfold frmE; rw [if_neg h, hr]; rfl
  exact ⟨h1, by unfold frmV; rw [h1]; rfl⟩
theorem frmE_ok {b : List UInt8} (hr : frmR b = true) : frmE b = 0 ∧ frmV b = frmB b := by
  have h1 : frmE b = 0 := by unfold frmE; rw [if_neg (by have := (frmR_len hr).2; omega), hr]; rfl
  exact ⟨h1, by unfold frmV; rw [if_pos h1]⟩
theorem frmE_zero {b : List UInt8} (h : frmE b = 0) : frmR b = true := by
  unfold frmE at h
  split at h
  · cases h
  · split at h
    · assumption
    · cases h
theorem decDigits_le4 {n : Nat} (h : n ≤ 8000) : (Lib.decDigits n).length ≤ 4 := decDigits_len 3 n (by omega)
theorem frmB_len (b : List UInt8) : (frmB b).length = 12 + (Lib.decDigits b.length).length + 1 + b.length + 7 := by
  simp [frmB, headB, dig3, begL]; omega
theorem frmV_len (b : List UInt8) : (frmV b).length ≤ 8024 := by
  unfold frmV
  split
  · rename_i h
    have h1 := (frmR_len (frmE_zero h)).2
    have h2 := decDigits_le4 h1
    rw [frmB_len]; omega
  · simp

def starts3 (x : List UInt8) : Bool := decide (x.length < 12) && x.isPrefixOf begL
/-- Do the bytes begin with the beginning, or are they the first ones of it? -/
def begs (x : List UInt8) : Bool := begL.isPrefixOf x || starts3 x
theorem begs_nil : begs [] = true := rfl
theorem pre_take {a b : List UInt8} : a.isPrefixOf b = true ↔ b.take a.length = a := by
  rw [List.isPrefixOf_iff_prefix, List.prefix_iff_eq_take]; exact eq_comm
theorem begs_at {x : List UInt8} {i : Nat} (h : begs x = true) (hi : i < 12) (hx : i < x.length) : x[i]? = begL[i]? := by
  unfold begs at h
  rw [Bool.or_eq_true] at h
  rcases h with h | h
  · have := pre_take.1 h
    rw [← this, begL_len, List.getElem?_take, if_pos hi]
  · unfold starts3 at h
    rw [Bool.and_eq_true] at h
    have := pre_take.1 h.2
    conv => lhs; rw [← this]
    rw [List.getElem?_take, if_pos hx]
theorem begs_end {x : List UInt8} {i : Nat} (h : x.take i = begL.take i) (hi : i ≤ 12) (he : i = 12 ∨ x.length ≤ i) : begs x = true := by
  unfold begs
  rw [Bool.or_eq_true]
  by_cases h12 : i = 12
  · subst h12
    left; rw [pre_take]
    exact h
  · right
    have hx : x.length ≤ i := by omega
    rw [List.take_of_length_le hx] at h
    unfold starts3
    rw [Bool.and_eq_true, decide_eq_true_eq, pre_take]
    refine ⟨by omega, ?_⟩
    rw [h, List.length_take, begL_len, Nat.min_eq_left (by omega)]
def skip : List UInt8 → Nat
  | [] => 0
  | c :: r => if begs (c :: r) then 0 else skip r + 1
theorem skip_begs : ∀ l : List UInt8, begs (l.drop (skip l)) = true
  | [] => rfl
  | c :: r => by
    unfold skip
    split
    · assumption
    · rw [List.drop_succ_cons]; exact skip_begs r
theorem skip_not : ∀ (l : List UInt8) (j : Nat), j < skip l → begs (l.drop j) = false
  | [], j, h => by simp [skip] at h
  | c :: r, j, h => by
    unfold skip at h
    split at h
    · omega
    · rename_i hb
      cases j with
      | zero => simpa using hb
      | succ j => rw [List.drop_succ_cons]; exact skip_not r j (by omega)
theorem skip_le (l : List UInt8) (j : Nat) (h : begs (l.drop j) = true) : skip l ≤ j := by
  rcases Nat.lt_or_ge j (skip l) with hlt | hge
  · rw [skip_not l j hlt] at h; cases h
  · exact hge
theorem skip_len (l : List UInt8) : skip l ≤ l.length := skip_le l _ (by rw [List.drop_length]; rfl)
/-- How many bytes are junk, where the first ones are. -/
def junkN (b : List UInt8) : Nat := skip b.tail + 1
theorem junk_begs (b : List UInt8) : begs (b.drop (junkN b)) = true := by
  have := skip_begs b.tail
  rwa [List.drop_tail] at this
theorem junk_le {b : List UInt8} {j : Nat} (h0 : 1 ≤ j) (h : begs (b.drop j) = true) : junkN b ≤ j := by
  have := skip_le b.tail (j - 1) (by rw [List.drop_tail, show j - 1 + 1 = j by omega]; exact h)
  unfold junkN; omega
theorem junk_not {b : List UInt8} {j : Nat} (h0 : 1 ≤ j) (h : j < junkN b) : begs (b.drop j) = false := by
  have := skip_not b.tail (j - 1) (by unfold junkN at h; omega)
  rwa [List.drop_tail, show j - 1 + 1 = j by omega] at this
theorem junk_pos (b : List UInt8) : 1 ≤ junkN b := by unfold junkN; omega
theorem junk_len {b : List UInt8} (h : b ≠ []) : junkN b ≤ b.length := by
  have := skip_len b.tail
  have h1 : 0 < b.length := List.length_pos_iff.2 h
  rw [List.length_tail] at this
  unfold junkN; omega
theorem junk_eq {b : List UInt8} {j : Nat} (h0 : 1 ≤ j) (h : begs (b.drop j) = true) (hn : ∀ i, 1 ≤ i → i < j → begs (b.drop i) = false) : junkN b = j := by
  have h1 := junk_le h0 h
  rcases Nat.lt_or_ge (junkN b) j with hlt | hge
  · have := hn _ (junk_pos b) hlt
    rw [junk_begs] at this; cases this
  · omega
theorem index_skip : ∀ (l : List UInt8) (i : Nat), Lib.index l begL = (i : Int) → skip l = i
  | [], i, h => by simp [Lib.index, begL] at h
  | c :: r, i, h => by
    unfold Lib.index at h
    unfold skip
    by_cases hp : begL.isPrefixOf (c :: r) = true
    · rw [if_pos hp] at h
      rw [if_pos (by unfold begs; rw [hp]; rfl)]; omega
    · rw [if_neg hp] at h
      have hr : 0 ≤ Lib.index r begL := by
        have := Lib.index_ge r begL
        rcases Int.lt_or_le (Lib.index r begL) 0 with h1 | h1
        · simp at h; omega
        · exact h1
      obtain ⟨j, hj⟩ := Int.eq_ofNat_of_zero_le hr
      have hs : begs (c :: r) = false := by
        have hl : 12 ≤ r.length := by
          have h2 := index_skip r j hj
          have h3 := skip_len r
          rcases Nat.lt_or_ge r.length 12 with h4 | h4
          · exfalso
            have : Lib.index r begL = -1 := Lib.index_none fun k hk => by
              rcases Bool.eq_false_or_eq_true (Lib.occAt r begL k) with h5 | h5
              · have := Lib.occAt_room h5
                rcases this with h6 | h6
                · rw [begL_len] at h6; omega
                · cases h6
              · exact h5
            omega
          · exact h4
        unfold begs starts3
        rw [Bool.eq_false_iff.2 hp, decide_eq_false (by simp; omega)]; rfl
      rw [if_neg (by rw [hs]; decide)]
      rw [index_skip r j hj]
      rw [hj] at h
      have : ¬ ((j : Int) < 0) := by omega
      simp at h
      omega
theorem index_neg {l : List UInt8} (h : Lib.index l begL < 0) (j : Nat) : begs (l.drop j) = starts3 (l.drop j) := by
  unfold begs
  rw [Bool.or_eq_right_iff_imp]
  intro hp
  exfalso
  have hj : j ≤ l.length := by
    rcases Nat.lt_or_ge l.length j with h1 | h1
    · rw [List.drop_eq_nil_of_le (by omega)] at hp; cases hp
    · exact h1
  have hocc : Lib.occAt l begL j = true := hp
  have : ∃ i, i ≤ j ∧ Lib.occAt l begL i = true ∧ ∀ k, k < i → Lib.occAt l begL k = false := by
    clear h hp hj
    induction j using Nat.strongRecOn with
    | _ j ih =>
      by_cases hx : ∃ k, k < j ∧ Lib.occAt l begL k = true
      · obtain ⟨k, hk, ho⟩ := hx
        obtain ⟨i, hi, h1, h2⟩ := ih k hk ho
        exact ⟨i, by omega, h1, h2⟩
      · exact ⟨j, Nat.le_refl _, hocc, fun k hk => Bool.eq_false_iff.2 fun ho => hx ⟨k, hk, ho⟩⟩
  obtain ⟨i, hi, h1, h2⟩ := this
  have := Lib.index_first (by omega) h1 h2
  omega
end Go.Proofs.YtcfpchcbiknehaaDoorR
