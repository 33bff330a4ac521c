/-
  Layer 3, frame: what stands at the beginning of bytes: plain mathematics.
-/
import Derived.Test.YtcfpchcbiknehaaDoorRFrmMath
import Derived.Lib.Atoi
namespace Go.Proofs.YtcfpchcbiknehaaDoorR

def headOk : List UInt8 → Bool
  | [] => false
  | c :: _ => decide (¬ c = 48)
/-- Is it the text of a length? -/
def lenB (d : List UInt8) : Bool := decide (d.length ≤ 4) && (d.all digB && (headOk d && decide (decA 0 d ≤ 8000)))
theorem lenB_iff {d : List UInt8} : lenB d = true ↔ d.length ≤ 4 ∧ d.all digB = true ∧ headOk d = true ∧ decA 0 d ≤ 8000 := by
  unfold lenB; simp only [Bool.and_eq_true, decide_eq_true_eq]
theorem headOk_some {d : List UInt8} (h : headOk d = true) : ∃ c r, d = c :: r ∧ ¬ c = 48 := by
  cases d with
  | nil => cases h
  | cons c r => exact ⟨c, r, rfl, by simpa [headOk] using h⟩
theorem lenB_nil : lenB [] = false := rfl
theorem lenB_dec {n : Nat} (h0 : 1 ≤ n) (h : n ≤ 8000) : lenB (Lib.decDigits n) = true ∧ decA 0 (Lib.decDigits n) = n := by
  have hv := decA_decDigits n
  obtain ⟨c, r, e, hc⟩ := decDigits_head n h0
  refine ⟨lenB_iff.2 ⟨decDigits_le4 h, decDigits_all n, ?_, by omega⟩, hv⟩
  rw [e]; simpa [headOk] using hc
theorem lenB_back {d : List UInt8} (h : lenB d = true) : Lib.decDigits (decA 0 d) = d ∧ 1 ≤ decA 0 d ∧ decA 0 d ≤ 8000 := by
  obtain ⟨_, h2, h3, h4⟩ := lenB_iff.1 h
  obtain ⟨c, r, rfl, hc⟩ := headOk_some h3
  have := decDigits_decA r.length c r (Nat.le_refl _) hc h2
  exact ⟨this.1, this.2, h4⟩
theorem decA_app (a b : List UInt8) (n : Nat) : decA n (a ++ b) = decA (decA n a) b := by unfold decA; rw [List.foldl_append]
theorem decA_take_le (d : List UInt8) (k : Nat) : decA 0 (d.take k) ≤ decA 0 d := by
  conv => rhs; rw [← List.take_append_drop k d, decA_app]
  exact decA_ge _ _
theorem lenB_take {d : List UInt8} (h : lenB d = true) {k : Nat} (hk : 1 ≤ k) : lenB (d.take k) = true := by
  obtain ⟨h1, h2, h3, h4⟩ := lenB_iff.1 h
  refine lenB_iff.2 ⟨by rw [List.length_take]; omega, ?_, ?_, Nat.le_trans (decA_take_le d k) h4⟩
  · rw [List.all_eq_true] at h2 ⊢
    exact fun x hx => h2 x (List.mem_of_mem_take hx)
  · obtain ⟨c, r, rfl, hc⟩ := headOk_some h3
    obtain ⟨k, rfl⟩ : ∃ m, k = m + 1 := ⟨k - 1, by omega⟩
    simpa [headOk] using hc
theorem no1_digs {d : List UInt8} (h : d.all digB = true) : (1 : UInt8) ∉ d := fun h1 => by
  have := List.all_eq_true.1 h 1 h1
  cases this
theorem lenB_no1 {d : List UInt8} (h : lenB d = true) : (1 : UInt8) ∉ d := no1_digs (lenB_iff.1 h).2.1
theorem decFrom_digs : ∀ (l : List UInt8) (n : Nat), l.all digB = true → Lib.decFrom n l = some (decA n l)
  | [], n, _ => by rw [decA_nil]; rfl
  | c :: r, n, h => by
    simp only [List.all_cons, Bool.and_eq_true] at h
    have hc := digB_iff.1 h.1
    unfold Lib.decFrom Lib.digitVal
    rw [if_pos hc, decA_cons]
    exact decFrom_digs r _ h.2
theorem atoi_lenB {d : List UInt8} (h : lenB d = true) : Lib.atoi d = some ((decA 0 d : Nat) : Int) := by
  obtain ⟨_, h2, h3, _⟩ := lenB_iff.1 h
  obtain ⟨c, r, rfl, _⟩ := headOk_some h3
  have hc := digB_iff.1 (by simp only [List.all_cons, Bool.and_eq_true] at h2; exact h2.1)
  have n45 : ¬ c = 45 := by rintro rfl; simp at hc
  have n43 : ¬ c = 43 := by rintro rfl; simp at hc
  show (if (c == 45) = true then _ else if (c == 43) = true then _ else _) = _
  rw [if_neg (by simpa using n45), if_neg (by simpa using n43)]
  unfold Lib.decNat
  rw [if_neg (by simp), decFrom_digs _ _ h2]
  rfl
/-- What strconv says of a text, and whether it is a length's. -/
theorem len_cases (d : List UInt8) : (lenB d = true ∧ Lib.atoi d = some ((decA 0 d : Nat) : Int) ∧ 1 ≤ decA 0 d ∧ decA 0 d ≤ 8000 ∧ Lib.itoa (decA 0 d : Nat) = d) ∨
    (lenB d = false ∧ (Lib.atoi d = none ∨ ∃ n : Int, Lib.atoi d = some n ∧ (¬ (1 ≤ n ∧ n ≤ 8000) ∨ ((1 ≤ n ∧ n ≤ 8000) ∧ ¬ Lib.itoa n = d)))) := by
  rcases Bool.eq_false_or_eq_true (lenB d) with h | h
  · left
    have ⟨h1, h2, h3⟩ := lenB_back h
    refine ⟨h, atoi_lenB h, h2, h3, ?_⟩
    unfold Lib.itoa
    rw [if_neg (by omega)]
    exact h1
  · right
    refine ⟨h, ?_⟩
    cases ha : Lib.atoi d with
    | none => exact .inl rfl
    | some n =>
      right
      refine ⟨n, rfl, ?_⟩
      by_cases hn : 1 ≤ n ∧ n ≤ 8000
      · right
        refine ⟨hn, fun he => ?_⟩
        unfold Lib.itoa at he
        rw [if_neg (by omega)] at he
        have := (lenB_dec (n := n.toNat) (by omega) (by omega)).1
        rw [he, h] at this
        cases this
      · exact .inl hn

/-- The length's text, and does the byte 1 stand behind it? -/
def digsOf (r : List UInt8) : List UInt8 × Bool := match split1 1 (r.take 5) with
  | none => (r.take 5, false)
  | some p => (p.1, true)
theorem digs_cases (r : List UInt8) : (digsOf r = (r.take 5, false) ∧ (1 : UInt8) ∉ r.take 5 ∧ split1 1 (r.take 5) = none) ∨
    ∃ a t, digsOf r = (a, true) ∧ r.take 5 = a ++ 1 :: t ∧ (1 : UInt8) ∉ a ∧ a.length ≤ 4 ∧ a = r.take a.length ∧ r[a.length]? = some 1 ∧ split1 1 (r.take 5) = some (a, t) := by
  unfold digsOf
  cases h : split1 1 (r.take 5) with
  | none => left; exact ⟨rfl, split1_none.1 h, rfl⟩
  | some p =>
    right
    obtain ⟨a, t⟩ := p
    obtain ⟨h1, h2⟩ := split1_some h
    have hl := congrArg List.length h1
    rw [List.length_take, List.length_append, List.length_cons] at hl
    refine ⟨a, t, rfl, h1, h2, by omega, ?_, ?_, rfl⟩
    · have := congrArg (List.take a.length) h1
      rw [List.take_left, List.take_take, Nat.min_eq_left (by omega)] at this
      exact this.symm
    · have := congrArg (·[a.length]?) h1
      simp only [List.getElem?_append_right (Nat.le_refl _), Nat.sub_self, List.getElem?_cons_zero] at this
      rw [List.getElem?_take, if_pos (by omega)] at this
      exact this
/-- What stands behind the beginning: 0: more is needed; 1: a length; 2: neither. -/
def headK (r : List UInt8) : Int := if (!(digsOf r).2 && (lenB (digsOf r).1 || (digsOf r).1.isEmpty)) = true then 0 else if lenB (digsOf r).1 = true then 1 else 2
def lenT (r : List UInt8) : List UInt8 := (digsOf r).1
theorem headK_none {r : List UInt8} (h : digsOf r = (r.take 5, false)) : (headK r = 0 ∧ (lenB (r.take 5) = true ∨ r = [])) ∨ (headK r = 2 ∧ lenB (r.take 5) = false ∧ r ≠ []) := by
  unfold headK
  rw [h]
  cases r with
  | nil => left; exact ⟨rfl, .inr rfl⟩
  | cons c r =>
    rcases Bool.eq_false_or_eq_true (lenB ((c :: r).take 5)) with h1 | h1
    · left; rw [h1]; exact ⟨rfl, .inl rfl⟩
    · right; rw [h1]; exact ⟨rfl, rfl, by simp⟩
theorem headK_some {r a : List UInt8} (h : digsOf r = (a, true)) : (headK r = 1 ∧ lenB a = true) ∨ (headK r = 2 ∧ lenB a = false) := by
  unfold headK
  rw [h]
  rcases Bool.eq_false_or_eq_true (lenB a) with h1 | h1
  · left; rw [h1]; exact ⟨rfl, rfl⟩
  · right; rw [h1]; exact ⟨rfl, rfl⟩
theorem headK_one {r : List UInt8} (h : headK r = 1) : digsOf r = (lenT r, true) ∧ lenB (lenT r) = true ∧ lenT r = r.take (lenT r).length ∧ r[(lenT r).length]? = some 1 := by
  unfold lenT
  rcases digs_cases r with ⟨hd, _, _⟩ | ⟨a, t, hd, _, _, _, h1, h2, _⟩
  · rcases headK_none hd with ⟨h0, _⟩ | ⟨h0, _⟩ <;> · rw [h0] at h; cases h
  · rcases headK_some hd with ⟨_, h3⟩ | ⟨h0, _⟩
    · rw [hd]; exact ⟨rfl, h3, h1, h2⟩
    · rw [h0] at h; cases h
theorem headK_le (r : List UInt8) : headK r = 0 ∨ headK r = 1 ∨ headK r = 2 := by
  unfold headK
  split
  · exact .inl rfl
  · split
    · exact .inr (.inl rfl)
    · exact .inr (.inr rfl)
theorem headK_facts (r : List UInt8) : (headK r = 0 ∧ (digsOf r).2 = false ∧ (lenB (lenT r) = true ∨ (lenB (lenT r) = false ∧ (lenT r).length = 0))) ∨
    (headK r = 2 ∧ lenB (lenT r) = false ∧ ((digsOf r).2 = true ∨ ((digsOf r).2 = false ∧ 0 < (lenT r).length))) ∨ (headK r = 1 ∧ lenB (lenT r) = true ∧ (digsOf r).2 = true) := by
  unfold headK lenT
  rcases (digsOf r) with ⟨d, en⟩
  dsimp only
  rcases Bool.eq_false_or_eq_true (lenB d) with hb | hb
  · rw [hb]
    cases en with
    | false => left; exact ⟨rfl, rfl, .inl rfl⟩
    | true => right; right; exact ⟨rfl, rfl, rfl⟩
  · rw [hb]
    cases en with
    | false =>
      cases d with
      | nil => left; exact ⟨rfl, rfl, .inr ⟨rfl, rfl⟩⟩
      | cons c t => right; left; exact ⟨rfl, rfl, .inr ⟨rfl, by simp⟩⟩
    | true => right; left; exact ⟨rfl, rfl, .inl rfl⟩
/-- As the document's own way finds it: j digits, of four at most. -/
theorem headK_ref {r : List UInt8} {j : Nat} (hd : Digs r j) :
    ((0 < j ∧ (r[0]? = some 48 ∨ 8000 < decA 0 (r.take j))) → headK r = 2) ∧
    (¬ (0 < j ∧ (r[0]? = some 48 ∨ 8000 < decA 0 (r.take j))) → (j = r.length → headK r = 0) ∧ (j < r.length → (j = 0 ∨ r[j]? ≠ some 1) → headK r = 2) ∧ (0 < j → r[j]? = some 1 → headK r = 1 ∧ lenT r = r.take j)) := by
  obtain ⟨h4, hl, hall, hend⟩ := hd
  have hdig : ∀ i, i < j → ∃ c, r[i]? = some c ∧ digB c = true := fun i hi => by
    have h : i < r.length := by omega
    refine ⟨r[i], List.getElem?_eq_getElem h, List.all_eq_true.1 hall _ ?_⟩
    exact List.mem_of_getElem? (i := i) (by rw [List.getElem?_take, if_pos hi, List.getElem?_eq_getElem h])
  -- a text of digits that stands at the beginning reaches j at least
  have hlong : ∀ {a : List UInt8} {e : Bool}, digsOf r = (a, e) → lenB a = true → j ≤ a.length ∧ a = r.take a.length := fun {a e} ha hb => by
    rcases digs_cases r with ⟨h1, _, _⟩ | ⟨a', t, h1, _, _, _, h2, h3, _⟩
    · rw [h1] at ha; injection ha with ha _
      subst ha
      rw [List.length_take]
      refine ⟨by omega, ?_⟩
      rw [Nat.min_def]
      split
      · rfl
      · rw [List.take_of_length_le (Nat.le_refl _), List.take_of_length_le (by omega)]
    · rw [h1] at ha; injection ha with ha _
      subst ha
      refine ⟨?_, h2⟩
      rcases Nat.lt_or_ge a'.length j with hlt | hge
      · obtain ⟨c, hc, hcd⟩ := hdig _ hlt
        rw [h3] at hc; injection hc with hc; subst hc; cases hcd
      · exact hge
  have hnot : ∀ {a : List UInt8} {e : Bool}, digsOf r = (a, e) → lenB a = false → (e = true ∨ a ≠ []) → headK r = 2 := fun {a e} ha hb he => by
    unfold headK
    rw [ha]
    show (if (!e && (lenB a || a.isEmpty)) = true then _ else if lenB a = true then _ else _) = _
    rw [hb]
    rcases he with rfl | he
    · rfl
    · rw [show a.isEmpty = false by simpa using he]; simp
  have hne : 0 < j → (digsOf r).1 ≠ [] := fun h0 => by
    obtain ⟨c, hc, hcd⟩ := hdig 0 h0
    rcases digs_cases r with ⟨h1, _, _⟩ | ⟨a', t, h1, _, _, _, h2, h3, _⟩
    · rw [h1]
      cases r with
      | nil => simp at hc
      | cons x r => simp
    · rw [h1]
      rintro rfl
      have h3' : r[0]? = some 1 := h3
      rw [hc] at h3'; injection h3' with h3'; subst h3'; cases hcd
  refine ⟨fun ⟨h0, hbad⟩ => ?_, fun hA => ⟨fun hj => ?_, fun hj hc => ?_, fun h0 h1 => ?_⟩⟩
  · refine hnot (a := (digsOf r).1) (e := (digsOf r).2) rfl ?_ (.inr (hne h0))
    rw [Bool.eq_false_iff]
    intro hb
    obtain ⟨g1, g2⟩ := hlong (a := (digsOf r).1) (e := (digsOf r).2) rfl hb
    obtain ⟨_, _, g3, g4⟩ := lenB_iff.1 hb
    generalize (digsOf r).1 = a at *
    rcases hbad with h48 | hbig
    · obtain ⟨c, t, rfl, hc⟩ := headOk_some g3
      have := congrArg (·[0]?) g2
      simp only [List.getElem?_cons_zero] at this
      rw [List.getElem?_take, if_pos (by simp), h48] at this
      injection this with this; exact hc this
    · have : decA 0 (r.take j) ≤ decA 0 a := by
        have e : r.take j = a.take j := by rw [g2, List.take_take, Nat.min_eq_left g1]
        rw [e]; exact decA_take_le _ _
      omega
  · have e5 : r.take 5 = r := List.take_of_length_le (by omega)
    have ej : r.take j = r := List.take_of_length_le (by omega)
    rw [ej] at hall hA
    rcases digs_cases r with ⟨h1, _, _⟩ | ⟨a', t, h1, _, _, _, h2, h3, _⟩
    · rcases headK_none h1 with ⟨h0, _⟩ | ⟨_, g1, g2⟩
      · exact h0
      · exfalso
        rw [e5] at g1
        have hpos : 0 < j := by rw [hj]; exact List.length_pos_iff.2 g2
        have : lenB r = true := by
          refine lenB_iff.2 ⟨by omega, hall, ?_, ?_⟩
          · cases r with
            | nil => exact absurd rfl g2
            | cons c t =>
              simp only [headOk, decide_eq_true_eq]
              rintro rfl
              exact hA ⟨hpos, .inl rfl⟩
          · rcases Nat.lt_or_ge 8000 (decA 0 r) with h | h
            · exact absurd ⟨hpos, .inr h⟩ hA
            · exact h
        rw [this] at g1; cases g1
    · exfalso
      have hlt : a'.length < r.length := by
        rcases Nat.lt_or_ge a'.length r.length with h | h
        · exact h
        · rw [List.getElem?_eq_none h] at h3; cases h3
      obtain ⟨c, hc, hcd⟩ := hdig a'.length (by omega)
      rw [h3] at hc; injection hc with hc; subst hc; cases hcd
  · rcases digs_cases r with ⟨h1, _, _⟩ | ⟨a', t, h1, _, h1no, _, h2, h3, _⟩
    · refine hnot h1 ?_ (.inr ?_)
      · rw [Bool.eq_false_iff]
        intro hb
        obtain ⟨g1, g2, g3, g4⟩ := lenB_iff.1 hb
        have hr4 : r.length ≤ 4 := by rw [List.length_take] at g1; omega
        have e5 : r.take 5 = r := List.take_of_length_le (by omega)
        rw [e5] at g2
        have hg := hend (by omega) r[j] (List.getElem?_eq_getElem hj)
        rw [List.all_eq_true.1 g2 _ (List.getElem_mem hj)] at hg
        cases hg
      · cases r with
        | nil => simp at hj
        | cons x r => simp
    · refine hnot h1 ?_ (.inl rfl)
      rw [Bool.eq_false_iff]
      intro hb
      obtain ⟨g1, _⟩ := hlong h1 hb
      obtain ⟨k1, k2, k3, k4⟩ := lenB_iff.1 hb
      rcases Nat.lt_or_ge j a'.length with hlt | hge
      · have hjd : digB r[j] = true := by
          refine List.all_eq_true.1 k2 _ ?_
          rw [h2]
          exact List.mem_of_getElem? (i := j) (by rw [List.getElem?_take, if_pos hlt, List.getElem?_eq_getElem hj])
        have := hend (by omega) r[j] (List.getElem?_eq_getElem hj)
        rw [hjd] at this; cases this
      · have : j = a'.length := by omega
        rcases hc with h0 | h1
        · rw [h0] at this
          obtain ⟨c, t', rfl, _⟩ := headOk_some k3
          simp at this
        · rw [this] at h1; exact h1 h3
  · have hlt : j < r.length := by
      rcases Nat.lt_or_ge j r.length with h | h
      · exact h
      · rw [List.getElem?_eq_none h] at h1; cases h1
    have hb : lenB (r.take j) = true := by
      refine lenB_iff.2 ⟨by rw [List.length_take]; omega, hall, ?_, ?_⟩
      · cases r with
        | nil => simp at hlt
        | cons c t =>
          obtain ⟨k, rfl⟩ : ∃ m, j = m + 1 := ⟨j - 1, by omega⟩
          simp only [List.take_succ_cons, headOk, decide_eq_true_eq]
          rintro rfl
          exact hA ⟨h0, .inl rfl⟩
      · rcases Nat.lt_or_ge 8000 (decA 0 (r.take j)) with h | h
        · exact absurd ⟨h0, .inr h⟩ hA
        · exact h
    have e : r.take 5 = r.take j ++ 1 :: (r.drop (j + 1)).take (4 - j) := by
      have e1 : r = r.take j ++ 1 :: r.drop (j + 1) := by
        conv => lhs; rw [← List.take_append_drop j r]
        rw [List.drop_eq_getElem_cons hlt]
        rw [List.getElem?_eq_getElem hlt] at h1
        injection h1 with h1
        rw [h1]
      conv => lhs; rw [e1]
      rw [List.take_append, List.take_of_length_le (by rw [List.length_take]; omega), List.length_take, Nat.min_eq_left hl]
      rw [show 5 - j = (4 - j) + 1 by omega, List.take_succ_cons]
    have hs : digsOf r = (r.take j, true) := by
      unfold digsOf
      rw [e, split1_app (no1_digs hall)]
    rcases headK_some hs with ⟨h, _⟩ | ⟨_, h⟩
    · exact ⟨h, by unfold lenT; rw [hs]⟩
    · rw [hb] at h; cases h
end Go.Proofs.YtcfpchcbiknehaaDoorR
