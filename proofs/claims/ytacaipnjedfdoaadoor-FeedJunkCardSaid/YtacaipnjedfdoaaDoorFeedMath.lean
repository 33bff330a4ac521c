/-
  Layer 4, feed: a stream in pieces: plain mathematics over what Next says.
-/
import Derived.Test.YtacaipnjedfdoaaDoorFrmNextMath
namespace Go.Proofs.YtacaipnjedfdoaaDoor

/-- What is told, how many bytes are junk, and what is kept. -/
def feedL : Nat → List UInt8 → List (List UInt8) × Nat × List UInt8
  | 0, b => ([], 0, b)
  | k + 1, b =>
    if (nxt b).1 = 1 then ((nxt b).2.1 :: (feedL k (b.drop (nxt b).2.2)).1, (feedL k (b.drop (nxt b).2.2)).2.1, (feedL k (b.drop (nxt b).2.2)).2.2)
    else if (nxt b).1 = 2 then ((feedL k (b.drop (nxt b).2.2)).1, (nxt b).2.2 + (feedL k (b.drop (nxt b).2.2)).2.1, (feedL k (b.drop (nxt b).2.2)).2.2)
    else ([], 0, b)
def feed (b : List UInt8) : List (List UInt8) × Nat × List UInt8 := feedL b.length b
theorem feedL_need {k : Nat} {b : List UInt8} (h : nxt b = (0, [], 0)) : feedL k b = ([], 0, b) := by
  cases k with
  | zero => rfl
  | succ k => unfold feedL; rw [h]; rfl
theorem feedL_frame {k n : Nat} {b x : List UInt8} (h : nxt b = (1, x, n)) : feedL (k + 1) b = (x :: (feedL k (b.drop n)).1, (feedL k (b.drop n)).2.1, (feedL k (b.drop n)).2.2) := by
  conv => lhs; unfold feedL
  rw [h]; rfl
theorem feedL_junk {k n : Nat} {b x : List UInt8} (h : nxt b = (2, x, n)) : feedL (k + 1) b = ((feedL k (b.drop n)).1, n + (feedL k (b.drop n)).2.1, (feedL k (b.drop n)).2.2) := by
  conv => lhs; unfold feedL
  rw [h]; rfl
theorem nxt_nil : nxt [] = (0, [], 0) := rfl
theorem feedL_fuel : ∀ (k k' : Nat) (b : List UInt8), b.length ≤ k → b.length ≤ k' → feedL k b = feedL k' b
  | 0, k', b, h, _ => by
    have : b = [] := List.eq_nil_of_length_eq_zero (by omega)
    subst this
    rw [feedL_need nxt_nil, feedL_need nxt_nil]
  | k + 1, 0, b, _, h => by
    have : b = [] := List.eq_nil_of_length_eq_zero (by omega)
    subst this
    rw [feedL_need nxt_nil, feedL_need nxt_nil]
  | k + 1, k' + 1, b, h, h' => by
    rcases nxt_sound b with hx | ⟨hx, h1, h2⟩ | ⟨x, n, hx, _, _, h1, h2, _⟩
    · rw [feedL_need hx, feedL_need hx]
    · rw [feedL_junk hx, feedL_junk hx, feedL_fuel k k' _ (by rw [List.length_drop]; omega) (by rw [List.length_drop]; omega)]
    · rw [feedL_frame hx, feedL_frame hx, feedL_fuel k k' _ (by rw [List.length_drop]; omega) (by rw [List.length_drop]; omega)]
theorem feed_need {b : List UInt8} (h : nxt b = (0, [], 0)) : feed b = ([], 0, b) := feedL_need h
theorem feed_frame {n : Nat} {b x : List UInt8} (h : nxt b = (1, x, n)) (h1 : 1 ≤ n) (h2 : n ≤ b.length) : feed b = (x :: (feed (b.drop n)).1, (feed (b.drop n)).2.1, (feed (b.drop n)).2.2) := by
  unfold feed
  obtain ⟨k, hk⟩ : ∃ k, b.length = k + 1 := ⟨b.length - 1, by omega⟩
  rw [hk, feedL_frame h, feedL_fuel k (b.drop n).length _ (by rw [List.length_drop]; omega) (Nat.le_refl _)]
theorem feed_junk {n : Nat} {b x : List UInt8} (h : nxt b = (2, x, n)) (h1 : 1 ≤ n) (h2 : n ≤ b.length) : feed b = ((feed (b.drop n)).1, n + (feed (b.drop n)).2.1, (feed (b.drop n)).2.2) := by
  unfold feed
  obtain ⟨k, hk⟩ : ∃ k, b.length = k + 1 := ⟨b.length - 1, by omega⟩
  rw [hk, feedL_junk h, feedL_fuel k (b.drop n).length _ (by rw [List.length_drop]; omega) (Nat.le_refl _)]

/-! ### What Next said stays, whatever comes behind -/
theorem begs_more {p q : List UInt8} (h : begs p = false) : begs (p ++ q) = false := by
  rw [Bool.eq_false_iff] at h ⊢
  intro hb
  refine h ?_
  refine begs_end (i := min 12 p.length) ?_ (by omega) (by omega)
  apply List.ext_getElem?
  intro j
  rw [List.getElem?_take, List.getElem?_take]
  split
  · rename_i hj
    have := begs_at hb (i := j) (by omega) (by rw [List.length_append]; omega)
    rw [List.getElem?_append_left (by omega)] at this
    exact this
  · rfl
theorem junk_more {p : List UInt8} (q : List UInt8) (hp : p ≠ []) : junkN p ≤ junkN (p ++ q) := by
  rcases Nat.lt_or_ge (junkN (p ++ q)) (junkN p) with h | h
  · have h1 := junk_not (junk_pos (p ++ q)) h
    have h2 := junk_begs (p ++ q)
    have h3 := junk_len hp
    rw [List.drop_append_of_le_length (by omega), begs_more h1] at h2
    cases h2
  · exact h
theorem headK_two_more {r : List UInt8} (q : List UInt8) (h : headK r = 2) : headK (r ++ q) = 2 := by
  rcases digs_cases r with ⟨h1, hno, h3⟩ | ⟨a, t, h1, e5, hno, ha4, ha, hat, h3⟩
  · rcases headK_none h1 with ⟨h0, _⟩ | ⟨_, hb, hne⟩
    · rw [h0] at h; cases h
    · have hpos : 0 < r.length := List.length_pos_iff.2 hne
      -- the text begins as the elder one does
      have hpre : lenB (lenT (r ++ q)) = false ∧ (lenT (r ++ q)) ≠ [] := by
        unfold lenT
        rcases digs_cases (r ++ q) with ⟨g1, _, _⟩ | ⟨a, t, g1, g2, g3, g4, g5, g6, _⟩
        · rw [g1]
          refine ⟨?_, fun h0 => ?_⟩
          · rw [Bool.eq_false_iff]; intro hb'
            have : ((r ++ q).take 5).take (r.take 5).length = r.take 5 := by
              rw [List.take_take, List.length_take, Nat.min_eq_left (by omega), List.take_append_of_le_length (by omega)]
              rw [Nat.min_def]; split
              · rfl
              · rw [List.take_of_length_le (Nat.le_refl _), List.take_of_length_le (by omega)]
            have h2 := lenB_take hb' (k := (r.take 5).length) (by rw [List.length_take]; omega)
            rw [this, hb] at h2; cases h2
          · have := congrArg List.length h0
            rw [List.length_take, List.length_append, List.length_nil] at this
            omega
        · rw [g1]
          dsimp only
          have hlen : (r.take 5).length ≤ a.length := by
            rcases Nat.lt_or_ge a.length (r.take 5).length with hlt | hge
            · exfalso
              rw [List.length_take] at hlt
              rw [List.getElem?_append_left (by omega)] at g6
              refine hno ?_
              exact List.mem_of_getElem? (i := a.length) (by rw [List.getElem?_take, if_pos (by omega)]; exact g6)
            · exact hge
          have hal : a.take (r.take 5).length = r.take 5 := by
            rw [g5, List.take_take, Nat.min_eq_left hlen, List.length_take, List.take_append_of_le_length (by omega)]
            rw [Nat.min_def]; split
            · rfl
            · rw [List.take_of_length_le (Nat.le_refl _), List.take_of_length_le (by omega)]
          refine ⟨?_, fun h0 => ?_⟩
          · rw [Bool.eq_false_iff]; intro hb'
            have h2 := lenB_take hb' (k := (r.take 5).length) (by rw [List.length_take]; omega)
            rw [hal, hb] at h2; cases h2
          · rw [h0, List.length_take, List.length_nil] at hlen
            omega
      rcases headK_facts (r ++ q) with ⟨_, _, g | ⟨_, g⟩⟩ | ⟨g, _⟩ | ⟨_, g, _⟩
      · rw [hpre.1] at g; cases g
      · exact absurd (List.eq_nil_of_length_eq_zero g) hpre.2
      · exact g
      · rw [hpre.1] at g; cases g
  · have hd : digsOf (r ++ q) = (a, true) := by
      have hl : a.length < r.length := (List.getElem?_eq_some_iff.1 hat).1
      have e : r ++ q = a ++ 1 :: (r.drop (a.length + 1) ++ q) := by
        conv => lhs; rw [← List.take_append_drop a.length r, ← ha]
        rw [List.drop_eq_getElem_cons hl]
        rw [List.getElem?_eq_getElem hl] at hat
        injection hat with hat
        rw [hat]; simp
      rw [e]; exact digs_of ha4 hno
    rcases headK_some h1 with ⟨g, _⟩ | ⟨_, g⟩
    · rw [g] at h; cases h
    · rcases headK_some hd with ⟨_, g'⟩ | ⟨g', _⟩
      · rw [g] at g'; cases g'
      · exact g'
theorem headK_one_more {r : List UInt8} (q : List UInt8) (h : headK r = 1) : headK (r ++ q) = 1 ∧ lenT (r ++ q) = lenT r := by
  obtain ⟨hd, hb, ha, hat⟩ := headK_one h
  have hl : (lenT r).length < r.length := (List.getElem?_eq_some_iff.1 hat).1
  have e : r ++ q = lenT r ++ 1 :: (r.drop ((lenT r).length + 1) ++ q) := by
    conv => lhs; rw [← List.take_append_drop (lenT r).length r, ← ha]
    rw [List.drop_eq_getElem_cons hl]
    rw [List.getElem?_eq_getElem hl] at hat
    injection hat with hat
    rw [hat]; simp
  have hd' : digsOf (r ++ q) = (lenT r, true) := by rw [e]; exact digs_of (lenB_iff.1 hb).1 (lenB_no1 hb)
  refine ⟨?_, by unfold lenT; rw [hd']; rfl⟩
  rcases headK_some hd' with ⟨g, _⟩ | ⟨_, g⟩
  · exact g
  · rw [hb] at g; cases g
theorem junk_stays {p : List UInt8} (q : List UInt8) (h : nxt p = (2, [], junkN p)) : nxt (p ++ q) = (2, [], junkN (p ++ q)) := by
  have hsnd : ∀ {b : List UInt8}, begs b = false → nxt b = (2, [], junkN b) := fun {b} hb => by
    unfold begs at hb
    rw [Bool.or_eq_false_iff] at hb
    unfold nxt
    rw [hb.2, show Lib.hasPrefix b begL = false from hb.1]; rfl
  rcases nxt_cases p with ⟨_, h'⟩ | ⟨h1, h2, _⟩ | ⟨_, _, _, h'⟩ | ⟨h1, h2, h3, _⟩ | ⟨h1, h2, h3, h' | h' | h'⟩
  · rw [h'] at h; cases h
  · exact hsnd (begs_more (by unfold begs; rw [h1, show begL.isPrefixOf p = false from h2]; rfl))
  · rw [h'] at h; cases h
  · obtain ⟨e, h12⟩ := pre_beg h2
    have hp : Lib.hasPrefix (p ++ q) begL = true := by rw [e, List.append_assoc]; exact beg_pre
    refine nxt_h2 (starts_long (by rw [List.length_append]; omega)) hp ?_
    rw [List.drop_append_of_le_length h12]
    exact headK_two_more q h3
  · rw [h'.2] at h; cases h
  · rw [h'.2.2.2] at h; cases h
  · obtain ⟨g1, g2, _⟩ := h'
    obtain ⟨e, h12⟩ := pre_beg h2
    have hp : Lib.hasPrefix (p ++ q) begL = true := by rw [e, List.append_assoc]; exact beg_pre
    have hk := headK_one_more q h3
    rw [← List.drop_append_of_le_length h12] at hk
    have hw : wholeOf (p ++ q) = wholeOf p := by unfold wholeOf; rw [hk.2]
    have hbl : wholeOf p = 12 + (lenT (p.drop 12)).length + 1 + decA 0 (lenT (p.drop 12)) + 7 := rfl
    have hb : bodyOf (p ++ q) = bodyOf p := by
      unfold bodyOf
      rw [hk.2, List.drop_append_of_le_length (by omega), List.take_append_of_le_length (by rw [List.length_drop]; omega)]
    rw [nxt_h1 (starts_long (by rw [List.length_append]; omega)) hp hk.1, hw, hb, if_neg (by rw [List.length_append]; omega), List.take_append_of_le_length g1, if_neg g2]
theorem frame_stays {p x : List UInt8} {n : Nat} (q : List UInt8) (h : nxt p = (1, x, n)) : nxt (p ++ q) = (1, x, n) ∧ p = frmB x ++ p.drop n ∧ frmR x = true ∧ n = (frmB x).length := by
  rcases nxt_sound p with hx | ⟨hx, _⟩ | ⟨x', n', hx, hE, hV, h1, h2, _⟩
  · rw [hx] at h; cases h
  · rw [hx] at h; cases h
  · rw [hx] at h
    injection h with _ h
    injection h with e1 e2
    subst e1; subst e2
    have hR := frmE_zero hE
    rw [(frmE_ok hR).2] at hV
    have hn : n' = (frmB x').length := by rw [hV, List.length_take]; omega
    have e : p = frmB x' ++ p.drop n' := by rw [hV]; exact (List.take_append_drop n' p).symm
    refine ⟨?_, e, hR, hn⟩
    conv => lhs; rw [e, List.append_assoc]
    rw [nxt_found hR, ← hn]
/-- Joining what two pieces tell. -/
def cat (a b : List (List UInt8) × Nat × List UInt8) : List (List UInt8) × Nat × List UInt8 := (a.1 ++ b.1, a.2.1 + b.2.1, b.2.2)
theorem feed_cat : ∀ (k : Nat) (p q : List UInt8), p.length ≤ k → feed (p ++ q) = cat (feed p) (feed ((feed p).2.2 ++ q))
  | 0, p, q, h => by
    have : p = [] := List.eq_nil_of_length_eq_zero (by omega)
    subst this
    rw [feed_need nxt_nil]; simp [cat]
  | k + 1, p, q, h => by
    rcases nxt_sound p with hx | ⟨hx, h1, h2⟩ | ⟨x, n, hx, _, _, h1, h2, _⟩
    · rw [feed_need hx]; simp [cat]
    · have ih := feed_cat k (p.drop (junkN p)) q (by rw [List.length_drop]; omega)
      have hp : p ≠ [] := fun h0 => by subst h0; cases hx
      have hge := junk_more q hp
      have hs := junk_stays q hx
      have hne : p ++ q ≠ [] := fun h0 => hp (List.append_eq_nil_iff.1 h0).1
      have hle := junk_len hne
      have e1 : feed (p ++ q) = ((feed (p.drop (junkN p) ++ q)).1, junkN p + (feed (p.drop (junkN p) ++ q)).2.1, (feed (p.drop (junkN p) ++ q)).2.2) := by
        rw [feed_junk hs (junk_pos _) hle]
        have ed : p.drop (junkN p) ++ q = (p ++ q).drop (junkN p) := (List.drop_append_of_le_length h2).symm
        rcases Nat.eq_or_lt_of_le hge with heq | hlt
        · rw [← heq, ed]
        · have hno := junk_not h1 hlt
          have hlen : junkN p < (p ++ q).length := by omega
          have hj : junkN ((p ++ q).drop (junkN p)) = junkN (p ++ q) - junkN p := by
            refine junk_eq (by omega) ?_ fun i hi1 hi2 => ?_
            · rw [List.drop_drop, show junkN p + (junkN (p ++ q) - junkN p) = junkN (p ++ q) by omega]; exact junk_begs _
            · rw [List.drop_drop]; exact junk_not (by omega) (by omega)
          have hn2 : nxt ((p ++ q).drop (junkN p)) = (2, [], junkN ((p ++ q).drop (junkN p))) := by
            unfold begs at hno
            rw [Bool.or_eq_false_iff] at hno
            unfold nxt
            rw [hno.2, show Lib.hasPrefix _ begL = false from hno.1]; rfl
          have hl2 : ((p ++ q).drop (junkN p)).length = (p ++ q).length - junkN p := List.length_drop
          rw [ed, feed_junk hn2 (junk_pos _) (by rw [hj, hl2]; omega), hj, List.drop_drop, show junkN p + (junkN (p ++ q) - junkN p) = junkN (p ++ q) by omega]
          refine Prod.ext rfl (Prod.ext ?_ rfl)
          show junkN (p ++ q) + _ = junkN p + (junkN (p ++ q) - junkN p + _)
          omega
      rw [e1, ih, feed_junk hx h1 h2]
      refine Prod.ext rfl (Prod.ext ?_ rfl)
      show junkN p + ((feed (p.drop (junkN p))).2.1 + (feed ((feed (p.drop (junkN p))).2.2 ++ q)).2.1) = junkN p + (feed (p.drop (junkN p))).2.1 + (feed ((feed (p.drop (junkN p))).2.2 ++ q)).2.1
      exact (Nat.add_assoc _ _ _).symm
    · have ih := feed_cat k (p.drop n) q (by rw [List.length_drop]; omega)
      obtain ⟨hs, _⟩ := frame_stays q hx
      rw [feed_frame hs h1 (by rw [List.length_append]; omega), List.drop_append_of_le_length h2, ih, feed_frame hx h1 h2]
      rfl
/-- What is kept is the first bytes of a frame, or nothing. -/
theorem feed_kept : ∀ (k : Nat) (p : List UInt8), p.length ≤ k → nxt (feed p).2.2 = (0, [], 0)
  | 0, p, h => by
    have : p = [] := List.eq_nil_of_length_eq_zero (by omega)
    subst this
    rw [feed_need nxt_nil]; rfl
  | k + 1, p, h => by
    rcases nxt_sound p with hx | ⟨hx, h1, h2⟩ | ⟨x, n, hx, _, _, h1, h2, _⟩
    · rw [feed_need hx]; exact hx
    · rw [feed_junk hx h1 h2]; exact feed_kept k _ (by rw [List.length_drop]; omega)
    · rw [feed_frame hx h1 h2]; exact feed_kept k _ (by rw [List.length_drop]; omega)
theorem need_short {b : List UInt8} (h : nxt b = (0, [], 0)) : b.length ≤ 8023 := by
  rcases nxt_cases b with ⟨h1, _⟩ | ⟨_, _, h'⟩ | ⟨_, h2, h3, _⟩ | ⟨_, _, _, h'⟩ | ⟨_, h2, h3, h' | h' | h'⟩
  · unfold starts3 at h1
    simp only [Bool.and_eq_true, decide_eq_true_eq] at h1
    omega
  · rw [h'] at h; cases h
  · obtain ⟨_, h12⟩ := pre_beg h2
    rcases digs_cases (b.drop 12) with ⟨g1, _, _⟩ | ⟨a, t, g1, _⟩
    · rcases headK_none g1 with ⟨_, g | g⟩ | ⟨g, _⟩
      · have := (lenB_iff.1 g).1
        rw [List.length_take, List.length_drop] at this; omega
      · have := congrArg List.length g
        rw [List.length_drop] at this; simp at this; omega
      · rw [g] at h3; cases h3
    · rcases headK_some g1 with ⟨g, _⟩ | ⟨g, _⟩ <;> · rw [g] at h3; cases h3
  · rw [h'] at h; cases h
  · obtain ⟨_, hb, _⟩ := headK_one h3
    have h4 := (lenB_iff.1 hb).1
    have h8 := (lenB_iff.1 hb).2.2.2
    have := h'.1
    unfold wholeOf at this
    omega
  · rw [h'.2.2.2] at h; cases h
  · rw [h'.2.2] at h; cases h
theorem feed_kept_short (p : List UInt8) : (feed p).2.2.length ≤ 8023 := need_short (feed_kept p.length p (Nat.le_refl _))
/-- What is told, taken as junk, and kept are all bytes together. -/
theorem feed_counts : ∀ (k : Nat) (p : List UInt8), p.length ≤ k → (feed p).1.all frmR = true ∧ (feed p).2.1 + (feed p).2.2.length + ((feed p).1.map fun x => (frmB x).length).sum = p.length
  | 0, p, h => by
    have : p = [] := List.eq_nil_of_length_eq_zero (by omega)
    subst this
    rw [feed_need nxt_nil]; exact ⟨rfl, rfl⟩
  | k + 1, p, h => by
    rcases nxt_sound p with hx | ⟨hx, h1, h2⟩ | ⟨x, n, hx, _, _, h1, h2, _⟩
    · rw [feed_need hx]; exact ⟨rfl, by simp⟩
    · have ih := feed_counts k (p.drop (junkN p)) (by rw [List.length_drop]; omega)
      rw [List.length_drop] at ih
      rw [feed_junk hx h1 h2]
      exact ⟨ih.1, by dsimp only; omega⟩
    · have ih := feed_counts k (p.drop n) (by rw [List.length_drop]; omega)
      rw [List.length_drop] at ih
      obtain ⟨_, _, hR, hn⟩ := frame_stays [] hx
      rw [feed_frame hx h1 h2]
      refine ⟨by rw [List.all_cons, hR, ih.1]; rfl, ?_⟩
      dsimp only
      rw [List.map_cons, List.sum_cons, ← hn]
      omega
/-- Bytes without an 8 are junk, all of them. -/
theorem feed_no8 {a : List UInt8} (h8 : (56 : UInt8) ∉ a) : feed a = ([], a.length, []) := by
  by_cases h0 : a = []
  · subst h0; exact feed_need nxt_nil
  · have hno : ∀ i, i < a.length → begs (a.drop i) = false := fun i hi => by
      rw [Bool.eq_false_iff]; intro hb
      have := begs_at hb (i := 0) (by omega) (by rw [List.length_drop]; omega)
      rw [List.getElem?_drop, Nat.add_zero, List.getElem?_eq_getElem hi] at this
      injection this with this
      exact h8 (this ▸ List.getElem_mem hi)
    have hpos := List.length_pos_iff.2 h0
    have hj : junkN a = a.length := junk_eq hpos (by rw [List.drop_length]; rfl) fun i _ hi => hno i hi
    have h1 := hno 0 hpos
    rw [List.drop_zero] at h1
    have hx : nxt a = (2, [], a.length) := by
      unfold begs at h1
      rw [Bool.or_eq_false_iff] at h1
      unfold nxt
      rw [h1.2, show Lib.hasPrefix a begL = false from h1.1, hj]; rfl
    rw [feed_junk hx hpos (Nat.le_refl _), List.drop_length, feed_need nxt_nil]; rfl
theorem feed_put {x : List UInt8} (h : frmR x = true) (b : List UInt8) : feed (frmB x ++ b) = (x :: (feed b).1, (feed b).2.1, (feed b).2.2) := by
  have hl := frmB_len x
  rw [feed_frame (nxt_found h b) (by omega) (by rw [List.length_append]; omega), List.drop_left]
end Go.Proofs.YtacaipnjedfdoaaDoor
