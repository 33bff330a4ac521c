/-
  Layer 5, msg: what the program's own reading takes: the first field of each tag: plain mathematics.
-/
import Derived.Test.YtcfpchcbiknehaaDoorRMsgBackN
import Derived.Test.YtcfpchcbiknehaaDoorRFieldRead
import Derived.Lib.Index
namespace Go.Proofs.YtcfpchcbiknehaaDoorR

def lettersL : List UInt8 := [65, 48, 49, 50, 52, 53, 56]
def kix (s : ByteArray) : Int := 1 + Lib.index lettersL s.data.toList
theorem index_le5 : ∀ (l s : List UInt8), -1 ≤ Lib.index l s ∧ Lib.index l s ≤ l.length
  | [], s => by unfold Lib.index; split <;> simp
  | b :: l, s => by
    have ⟨h1, h2⟩ := index_le5 l s
    unfold Lib.index
    split
    · constructor
      · decide
      · simp only [List.length_cons]; omega
    · split
      · simp only [List.length_cons]; omega
      · simp only [List.length_cons]; omega
theorem kix_range (s : ByteArray) : 0 ≤ kix s ∧ kix s ≤ 8 := by
  have ⟨h1, h2⟩ := index_le5 lettersL s.data.toList
  have : lettersL.length = 7 := rfl
  unfold kix; omega
theorem kix_V {k : Int} (h : 1 ≤ k ∧ k ≤ 7) : kix (kindV k) = k := by
  rcases (show k = 1 ∨ k = 2 ∨ k = 3 ∨ k = 4 ∨ k = 5 ∨ k = 6 ∨ k = 7 by omega) with rfl | rfl | rfl | rfl | rfl | rfl | rfl <;> decide
def xOwn (l : List Fld) : Exc := ⟨getV l 17, getV l 19, getV l 11, getV l 1, getV l 55, numFV l 150, decide (getV l 54 = ⟨#[49]⟩), numFV l 32, numFV l 31, numFV l 60⟩
def mOwn0 (l : List Fld) : Mg := ⟨kix (getV l 35), numFV l 34, numFV l 52, getB l 43, 0, 0, false, eS, Exc.zero⟩
def mOwnR (l : List Fld) (m : Mg) : Mg :=
  if m.kind = 1 then { m with a := numFV l 108 } else if m.kind = 2 ∨ m.kind = 3 then { m with text := getV l 112 } else if m.kind = 4 then { m with a := numFV l 7, b := numFV l 16 }
  else if m.kind = 5 then { m with a := numFV l 36, gap := getB l 123 } else if m.kind = 7 then { m with ex := xOwn l } else m
/-- The message that the program takes these for. -/
def mOwn (l : List Fld) : Mg := mOwnR l (mOwn0 l)
theorem get_cons (t : Int) (v : ByteArray) (r : List Fld) : getV (⟨t, v⟩ :: r) t = v ∧ getB (⟨t, v⟩ :: r) t = true := ⟨if_pos rfl, if_pos rfl⟩
theorem get_ne {t u : Int} (h : ¬ u = t) (v : ByteArray) (r : List Fld) : getV (⟨u, v⟩ :: r) t = getV r t ∧ getB (⟨u, v⟩ :: r) t = getB r t := ⟨if_neg h, if_neg h⟩
theorem num_ne {t u : Int} (h : ¬ u = t) (v : ByteArray) (r : List Fld) : numFV (⟨u, v⟩ :: r) t = numFV r t := by unfold numFV; rw [(get_ne h v r).1, (get_ne h v r).2]
theorem num_cons {n : Int} (h : right n = true) (t : Int) (r : List Fld) : numFV (⟨t, nmV n⟩ :: r) t = n := by
  unfold numFV; rw [(get_cons t _ r).1, (get_cons t _ r).2, nmV_list, (parse_show h).2]; rfl
theorem opt_ne {t u : Int} (h : ¬ u = t) (s : ByteArray) (r : List Fld) : getV (opt u s ++ r) t = getV r t ∧ getB (opt u s ++ r) t = getB r t ∧ numFV (opt u s ++ r) t = numFV r t := by
  unfold opt; split
  · exact ⟨rfl, rfl, rfl⟩
  · exact ⟨(get_ne h s r).1, (get_ne h s r).2, num_ne h s r⟩
theorem optY_ne {t u : Int} (h : ¬ u = t) (b : Bool) (r : List Fld) : getV (optY u b ++ r) t = getV r t ∧ getB (optY u b ++ r) t = getB r t ∧ numFV (optY u b ++ r) t = numFV r t := by
  unfold optY; split
  · exact ⟨(get_ne h _ r).1, (get_ne h _ r).2, num_ne h _ r⟩
  · exact ⟨rfl, rfl, rfl⟩
theorem opt_at {t : Int} (s : ByteArray) {r : List Fld} (h : getV r t = eS) : getV (opt t s ++ r) t = s := by
  unfold opt; split
  · rename_i e; rw [List.nil_append, h, e]
  · exact (get_cons t s r).1
theorem optY_at {t : Int} (b : Bool) {r : List Fld} (h : getB r t = false) : getB (optY t b ++ r) t = b := by
  unfold optY; cases b
  · exact h
  · exact (get_cons t _ r).2
/-- None of these tags. -/
theorem get_nil (t : Int) : getV [] t = eS ∧ getB [] t = false ∧ numFV [] t = 0 := ⟨rfl, rfl, rfl⟩
theorem xOwn_L {x : Exc} (h : ExcR x) : xOwn (exL x) = x := by
  have hk : right x.kind = true := right_t (by have := h.kind; omega) (by have := h.kind; omega)
  have hq := small_right h.qty
  have hp := small_right h.price
  have ht := timeR_right h.time
  obtain ⟨id, ref, order, account, symbol, kind, buy, qty, price, time⟩ := x
  unfold xOwn exL
  dsimp only at *
  rw [(get_cons 17 _ _).1]
  simp only [(get_ne (show ¬ (17 : Int) = 19 by decide) _ _).1, (get_ne (show ¬ (17 : Int) = 11 by decide) _ _).1, (get_ne (show ¬ (17 : Int) = 1 by decide) _ _).1, (get_ne (show ¬ (17 : Int) = 55 by decide) _ _).1, (get_ne (show ¬ (17 : Int) = 54 by decide) _ _).1, num_ne (show ¬ (17 : Int) = 150 by decide) _ _, num_ne (show ¬ (17 : Int) = 32 by decide) _ _, num_ne (show ¬ (17 : Int) = 31 by decide) _ _, num_ne (show ¬ (17 : Int) = 60 by decide) _ _,
    (opt_ne (show ¬ (19 : Int) = 11 by decide) _ _).1, (opt_ne (show ¬ (19 : Int) = 1 by decide) _ _).1, (opt_ne (show ¬ (19 : Int) = 55 by decide) _ _).1, (opt_ne (show ¬ (19 : Int) = 54 by decide) _ _).1, (opt_ne (show ¬ (19 : Int) = 150 by decide) _ _).2.2, (opt_ne (show ¬ (19 : Int) = 32 by decide) _ _).2.2, (opt_ne (show ¬ (19 : Int) = 31 by decide) _ _).2.2, (opt_ne (show ¬ (19 : Int) = 60 by decide) _ _).2.2]
  rw [opt_at ref (by simp [getV]; rfl)]
  have e7 : numFV [⟨150, nmV kind⟩, ⟨32, nmV qty⟩, ⟨31, nmV price⟩, ⟨60, nmV time⟩] 150 = kind := num_cons hk 150 _
  have e8 : numFV [⟨32, nmV qty⟩, ⟨31, nmV price⟩, ⟨60, nmV time⟩] 32 = qty := num_cons hq 32 _
  have e9 : numFV [⟨31, nmV price⟩, ⟨60, nmV time⟩] 31 = price := num_cons hp 31 _
  have e0 : numFV [⟨60, nmV time⟩] 60 = time := num_cons ht 60 _
  simp only [num_ne (show ¬ (11 : Int) = 150 by decide) _ _, num_ne (show ¬ (1 : Int) = 150 by decide) _ _, num_ne (show ¬ (55 : Int) = 150 by decide) _ _, num_ne (show ¬ (54 : Int) = 150 by decide) _ _,
    num_ne (show ¬ (11 : Int) = 32 by decide) _ _, num_ne (show ¬ (1 : Int) = 32 by decide) _ _, num_ne (show ¬ (55 : Int) = 32 by decide) _ _, num_ne (show ¬ (54 : Int) = 32 by decide) _ _, num_ne (show ¬ (150 : Int) = 32 by decide) _ _,
    num_ne (show ¬ (11 : Int) = 31 by decide) _ _, num_ne (show ¬ (1 : Int) = 31 by decide) _ _, num_ne (show ¬ (55 : Int) = 31 by decide) _ _, num_ne (show ¬ (54 : Int) = 31 by decide) _ _, num_ne (show ¬ (150 : Int) = 31 by decide) _ _, num_ne (show ¬ (32 : Int) = 31 by decide) _ _,
    num_ne (show ¬ (11 : Int) = 60 by decide) _ _, num_ne (show ¬ (1 : Int) = 60 by decide) _ _, num_ne (show ¬ (55 : Int) = 60 by decide) _ _, num_ne (show ¬ (54 : Int) = 60 by decide) _ _, num_ne (show ¬ (150 : Int) = 60 by decide) _ _, num_ne (show ¬ (32 : Int) = 60 by decide) _ _, num_ne (show ¬ (31 : Int) = 60 by decide) _ _, e7, e8, e9, e0]
  have hs : decide (sideV buy = ⟨#[49]⟩) = buy := by cases buy <;> decide
  simp [getV, hs]
theorem head_own (k : ByteArray) {n tm : Int} (hn : right n = true) (ht : right tm = true) (c : Bool) {r : List Fld} (h : getB r 43 = false) :
    getV (⟨35, k⟩ :: ⟨34, nmV n⟩ :: ⟨52, nmV tm⟩ :: (optY 43 c ++ r)) 35 = k ∧ numFV (⟨35, k⟩ :: ⟨34, nmV n⟩ :: ⟨52, nmV tm⟩ :: (optY 43 c ++ r)) 34 = n ∧ numFV (⟨35, k⟩ :: ⟨34, nmV n⟩ :: ⟨52, nmV tm⟩ :: (optY 43 c ++ r)) 52 = tm ∧ getB (⟨35, k⟩ :: ⟨34, nmV n⟩ :: ⟨52, nmV tm⟩ :: (optY 43 c ++ r)) 43 = c := by
  refine ⟨(get_cons 35 k _).1, ?_, ?_, ?_⟩
  · rw [num_ne (by decide), num_cons hn]
  · rw [num_ne (by decide), num_ne (by decide), num_cons ht]
  · rw [(get_ne (by decide) _ _).2, (get_ne (by decide) _ _).2, (get_ne (by decide) _ _).2, optY_at c h]
theorem head_ne {t : Int} (k s tm : ByteArray) (c : Bool) (r : List Fld) (h5 : ¬ (35 : Int) = t) (h4 : ¬ (34 : Int) = t) (h2 : ¬ (52 : Int) = t) (h3 : ¬ (43 : Int) = t) :
    getV (⟨35, k⟩ :: ⟨34, s⟩ :: ⟨52, tm⟩ :: (optY 43 c ++ r)) t = getV r t ∧ getB (⟨35, k⟩ :: ⟨34, s⟩ :: ⟨52, tm⟩ :: (optY 43 c ++ r)) t = getB r t ∧ numFV (⟨35, k⟩ :: ⟨34, s⟩ :: ⟨52, tm⟩ :: (optY 43 c ++ r)) t = numFV r t := by
  refine ⟨?_, ?_, ?_⟩
  · rw [(get_ne h5 _ _).1, (get_ne h4 _ _).1, (get_ne h2 _ _).1, (optY_ne h3 c r).1]
  · rw [(get_ne h5 _ _).2, (get_ne h4 _ _).2, (get_ne h2 _ _).2, (optY_ne h3 c r).2.1]
  · rw [num_ne h5, num_ne h4, num_ne h2, (optY_ne h3 c r).2.2]
theorem rest_no43b (m : Mg) : getB (restL m) 43 = false := by
  unfold restL
  repeat' split
  · rfl
  · unfold opt; split <;> rfl
  · rfl
  · rw [(optY_ne (by decide) _ _).2.1]; rfl
  · unfold exL
    rw [(get_ne (by decide) _ _).2, (opt_ne (by decide) _ _).2.1]; rfl
  · rfl
theorem xOwn_head (k s tm : ByteArray) (c : Bool) (r : List Fld) : xOwn (⟨35, k⟩ :: ⟨34, s⟩ :: ⟨52, tm⟩ :: (optY 43 c ++ r)) = xOwn r := by
  unfold xOwn
  rw [(head_ne (t := 17) k s tm c r (by decide) (by decide) (by decide) (by decide)).1, (head_ne (t := 19) k s tm c r (by decide) (by decide) (by decide) (by decide)).1, (head_ne (t := 11) k s tm c r (by decide) (by decide) (by decide) (by decide)).1,
    (head_ne (t := 1) k s tm c r (by decide) (by decide) (by decide) (by decide)).1, (head_ne (t := 55) k s tm c r (by decide) (by decide) (by decide) (by decide)).1, (head_ne (t := 54) k s tm c r (by decide) (by decide) (by decide) (by decide)).1,
    (head_ne (t := 150) k s tm c r (by decide) (by decide) (by decide) (by decide)).2.2, (head_ne (t := 32) k s tm c r (by decide) (by decide) (by decide) (by decide)).2.2, (head_ne (t := 31) k s tm c r (by decide) (by decide) (by decide) (by decide)).2.2, (head_ne (t := 60) k s tm c r (by decide) (by decide) (by decide) (by decide)).2.2]
/-- What was said is taken as it was. -/
theorem mOwn_L {m : Mg} (h : MsgR m) : mOwn (msgL m) = m := by
  have K := h.kinded
  have hk := h.kind
  have hs : right m.seq = true := right_t (by have := h.seq; omega) (by have := h.seq; omega)
  have ht := timeR_right h.time
  have ha := small_right h.sa
  have hb := small_right h.sb
  have h43 := rest_no43b m
  have H : mOwn0 (msgL m) = ⟨m.kind, m.seq, m.time, m.copy, 0, 0, false, eS, Exc.zero⟩ := by
    unfold mOwn0 msgL
    have ⟨e1, e2, e3, e4⟩ := head_own (kindV m.kind) hs ht m.copy h43
    rw [e1, e2, e3, e4, kix_V hk]
  have g := fun (t : Int) (h5 : ¬ (35 : Int) = t) (h4 : ¬ (34 : Int) = t) (h2 : ¬ (52 : Int) = t) (h3 : ¬ (43 : Int) = t) => head_ne (kindV m.kind) (nmV m.seq) (nmV m.time) m.copy (restL m) h5 h4 h2 h3
  have gx := xOwn_head (kindV m.kind) (nmV m.seq) (nmV m.time) m.copy (restL m)
  unfold mOwn
  rw [H]
  obtain ⟨kind, seq, time, copy, a, b, gap, text, ex⟩ := m
  clear h43 hs ht H
  unfold mOwnR msgL
  dsimp only at *
  have K1 : (kind ≠ 7 → ex = Exc.zero) ∧ (kind ≠ 5 → gap = false) ∧ (kind ≠ 4 → b = 0) ∧ (kind ≠ 2 → kind ≠ 3 → text = eS) ∧ (kind ≠ 1 → kind ≠ 4 → kind ≠ 5 → a = 0) ∧ (kind = 7 → excB ex = true) := ⟨K.ex, K.gap, K.b, K.text, K.a, K.ex7⟩
  clear K
  obtain ⟨Kex, Kgap, Kb, Ktext, Ka, Kex7⟩ := K1
  rcases (show kind = 1 ∨ kind = 2 ∨ kind = 3 ∨ kind = 4 ∨ kind = 5 ∨ kind = 6 ∨ kind = 7 by omega) with rfl | rfl | rfl | rfl | rfl | rfl | rfl
  · have r : restL ⟨1, seq, time, copy, a, b, gap, text, ex⟩ = [⟨108, nmV a⟩] := rfl
    rw [r] at g ⊢
    obtain rfl := Kex (by decide); obtain rfl := Kgap (by decide); obtain rfl := Kb (by decide); obtain rfl := Ktext (by decide) (by decide)
    simp only [if_true]
    rw [(g 108 (by decide) (by decide) (by decide) (by decide)).2.2, num_cons ha]
  · have r : restL ⟨2, seq, time, copy, a, b, gap, text, ex⟩ = opt 112 text := rfl
    rw [r] at g ⊢
    obtain rfl := Kex (by decide); obtain rfl := Kgap (by decide); obtain rfl := Kb (by decide); obtain rfl := Ka (by decide) (by decide) (by decide)
    simp only [show ¬ (2 : Int) = 1 by decide, if_false, true_or, if_true]
    rw [(g 112 (by decide) (by decide) (by decide) (by decide)).1]
    have := opt_at (t := 112) text (r := []) rfl
    rw [List.append_nil] at this
    rw [this]
  · have r : restL ⟨3, seq, time, copy, a, b, gap, text, ex⟩ = opt 112 text := rfl
    rw [r] at g ⊢
    obtain rfl := Kex (by decide); obtain rfl := Kgap (by decide); obtain rfl := Kb (by decide); obtain rfl := Ka (by decide) (by decide) (by decide)
    simp only [show ¬ (3 : Int) = 1 by decide, if_false, or_true, if_true]
    rw [(g 112 (by decide) (by decide) (by decide) (by decide)).1]
    have := opt_at (t := 112) text (r := []) rfl
    rw [List.append_nil] at this
    rw [this]
  · have r : restL ⟨4, seq, time, copy, a, b, gap, text, ex⟩ = [⟨7, nmV a⟩, ⟨16, nmV b⟩] := rfl
    rw [r] at g ⊢
    obtain rfl := Kex (by decide); obtain rfl := Kgap (by decide); obtain rfl := Ktext (by decide) (by decide)
    simp only [show ¬ (4 : Int) = 1 by decide, show ¬ ((4 : Int) = 2 ∨ (4 : Int) = 3) by decide, if_false, if_true]
    rw [(g 7 (by decide) (by decide) (by decide) (by decide)).2.2, (g 16 (by decide) (by decide) (by decide) (by decide)).2.2, num_cons ha, num_ne (by decide), num_cons hb]
  · have r : restL ⟨5, seq, time, copy, a, b, gap, text, ex⟩ = optY 123 gap ++ [⟨36, nmV a⟩] := rfl
    rw [r] at g ⊢
    obtain rfl := Kex (by decide); obtain rfl := Kb (by decide); obtain rfl := Ktext (by decide) (by decide)
    simp only [show ¬ (5 : Int) = 1 by decide, show ¬ ((5 : Int) = 2 ∨ (5 : Int) = 3) by decide, show ¬ (5 : Int) = 4 by decide, if_false, if_true]
    rw [(g 36 (by decide) (by decide) (by decide) (by decide)).2.2, (g 123 (by decide) (by decide) (by decide) (by decide)).2.1, (optY_ne (by decide) _ _).2.2, num_cons ha, optY_at gap rfl]
  · obtain rfl := Kex (by decide); obtain rfl := Kgap (by decide); obtain rfl := Kb (by decide); obtain rfl := Ktext (by decide) (by decide); obtain rfl := Ka (by decide) (by decide) (by decide)
    rfl
  · have r : restL ⟨7, seq, time, copy, a, b, gap, text, ex⟩ = exL ex := rfl
    rw [r] at gx ⊢
    have hx := xOwn_L (excB_iff.1 (Kex7 rfl))
    obtain rfl := Kgap (by decide); obtain rfl := Kb (by decide); obtain rfl := Ktext (by decide) (by decide); obtain rfl := Ka (by decide) (by decide) (by decide)
    simp only [show ¬ (7 : Int) = 1 by decide, show ¬ ((7 : Int) = 2 ∨ (7 : Int) = 3) by decide, show ¬ (7 : Int) = 4 by decide, show ¬ (7 : Int) = 5 by decide, if_false, if_true]
    rw [gx, hx]
theorem own_good {l : List Fld} {b : List UInt8} (h : msgB (mOwn l) = true) (hb : putL (msgL (mOwn l)) = b) : mReadV b = mOwn l ∧ mReadE b = 0 := by
  subst hb; exact mRead_put (msgB_iff.1 h)
theorem own_bad {l : List Fld} {b : List UInt8} (hp : parseF b = .ok l) (hr : l.all Fld.right = true) (hl : putL l = b) (h : ¬ (msgB (mOwn l) = true ∧ putL (msgL (mOwn l)) = b)) : mReadV b = Mg.zero ∧ mReadE b = 3 := by
  have hn : readM l = none := by
    cases hm : readM l with
    | none => rfl
    | some m =>
      have ⟨h1, h2⟩ := readM_some (full_of_right hr) hm
      have h3 := mOwn_L h1
      rw [h2] at h3
      refine absurd ⟨?_, ?_⟩ h
      · rw [h3]; exact msgB_iff.2 h1
      · rw [h3, h2]; exact hl
  unfold mReadV mReadE
  rw [hp]
  simp only [hn]
  exact ⟨rfl, rfl⟩
/-- Whose numbers and texts are Go's. -/
theorem parseV_in (l : List UInt8) : -4611686018427387904 ≤ parseV l ∧ parseV l ≤ 4611686018427387904 := by
  unfold parseV
  split
  · rename_i h
    unfold parseE at h
    repeat' split at h
    all_goals first
      | (exact absurd h (by decide))
      | skip
    rename_i hr
    exact right_iff.1 hr
  · omega
theorem numFV_in (l : List Fld) (t : Int) : -4611686018427387904 ≤ numFV l t ∧ numFV l t ≤ 4611686018427387904 := by
  unfold numFV; split
  · exact parseV_in _
  · omega
theorem getV_size {l : List Fld} {N : Nat} (h : ∀ f ∈ l, f.val.size ≤ N) (t : Int) : (getV l t).size ≤ N := by
  induction l with
  | nil => exact Nat.zero_le _
  | cons f r ih =>
    unfold getV; split
    · exact h f (List.mem_cons_self ..)
    · exact ih fun g hg => h g (List.mem_cons_of_mem _ hg)
/-! ### What the program asks of each kind -/
theorem zero_small : small 0 = true := by decide
theorem seq_in {seq : Int} (e1 : ¬ seq = 0) (e2 : small seq = true) : 1 ≤ seq ∧ seq ≤ 1099511627776 := by
  have : 0 ≤ seq ∧ seq ≤ 1099511627776 := by simpa [small] using e2
  omega
section
variable {seq time : Int} {copy : Bool} {a b : Int} {gap : Bool} {text : ByteArray} {ex : Exc}
theorem right_k1 (e1 : ¬ seq = 0) (e2 : small seq = true) (e3 : timeR time = true) (e4 : textB text = true) : (small a = true ∧ (⟨0, 0, 0, false, 0, b, gap, text, ex⟩ : Mg) = Mg.zero) ↔ MsgR ⟨1, seq, time, copy, a, b, gap, text, ex⟩ := by
  have hs := seq_in e1 e2
  have zs := zero_small
  constructor
  · intro h
    simp only [Mg.zero, Mg.mk.injEq, true_and] at h
    refine ⟨by dsimp only; omega, hs, e3, ?_, ?_, e4, ⟨?_, ?_, ?_, ?_, ?_, ?_, ?_, ?_⟩⟩
    all_goals first
      | (simp_all; done)
      | (intros; simp_all; done)
      | omega
  · intro h
    have K := h.kinded
    have k1 := K.ex7
    have k2 := K.ex
    have k3 := K.gap
    have k4 := K.b
    have k5 := K.text
    have k6 := K.text3
    have k7 := K.a
    have k8 := K.a1
    have k9 := h.sa
    have k10 := h.sb
    clear h K
    simp only [Mg.zero, Mg.mk.injEq, true_and]
    simp_all
theorem right_k2 (e1 : ¬ seq = 0) (e2 : small seq = true) (e3 : timeR time = true) (e4 : textB text = true) : ((⟨0, 0, 0, false, a, b, gap, eS, ex⟩ : Mg) = Mg.zero) ↔ MsgR ⟨2, seq, time, copy, a, b, gap, text, ex⟩ := by
  have hs := seq_in e1 e2
  have zs := zero_small
  constructor
  · intro h
    simp only [Mg.zero, Mg.mk.injEq, true_and] at h
    refine ⟨by dsimp only; omega, hs, e3, ?_, ?_, e4, ⟨?_, ?_, ?_, ?_, ?_, ?_, ?_, ?_⟩⟩
    all_goals first
      | (simp_all; done)
      | (intros; simp_all; done)
      | omega
  · intro h
    have K := h.kinded
    have k1 := K.ex7
    have k2 := K.ex
    have k3 := K.gap
    have k4 := K.b
    have k5 := K.text
    have k6 := K.text3
    have k7 := K.a
    have k8 := K.a1
    have k9 := h.sa
    have k10 := h.sb
    clear h K
    simp only [Mg.zero, Mg.mk.injEq, true_and]
    simp_all
theorem right_k3 (e1 : ¬ seq = 0) (e2 : small seq = true) (e3 : timeR time = true) (e4 : textB text = true) : (text ≠ eS ∧ (⟨0, 0, 0, false, a, b, gap, eS, ex⟩ : Mg) = Mg.zero) ↔ MsgR ⟨3, seq, time, copy, a, b, gap, text, ex⟩ := by
  have hs := seq_in e1 e2
  have zs := zero_small
  constructor
  · intro h
    simp only [Mg.zero, Mg.mk.injEq, true_and] at h
    refine ⟨by dsimp only; omega, hs, e3, ?_, ?_, e4, ⟨?_, ?_, ?_, ?_, ?_, ?_, ?_, ?_⟩⟩
    all_goals first
      | (simp_all; done)
      | (intros; simp_all; done)
      | omega
  · intro h
    have K := h.kinded
    have k1 := K.ex7
    have k2 := K.ex
    have k3 := K.gap
    have k4 := K.b
    have k5 := K.text
    have k6 := K.text3
    have k7 := K.a
    have k8 := K.a1
    have k9 := h.sa
    have k10 := h.sb
    clear h K
    simp only [Mg.zero, Mg.mk.injEq, true_and]
    simp_all
theorem right_k4 (e1 : ¬ seq = 0) (e2 : small seq = true) (e3 : timeR time = true) (e4 : textB text = true) : (a ≠ 0 ∧ small a = true ∧ small b = true ∧ (⟨0, 0, 0, false, 0, 0, gap, text, ex⟩ : Mg) = Mg.zero) ↔ MsgR ⟨4, seq, time, copy, a, b, gap, text, ex⟩ := by
  have hs := seq_in e1 e2
  have zs := zero_small
  constructor
  · intro h
    simp only [Mg.zero, Mg.mk.injEq, true_and] at h
    refine ⟨by dsimp only; omega, hs, e3, ?_, ?_, e4, ⟨?_, ?_, ?_, ?_, ?_, ?_, ?_, ?_⟩⟩
    all_goals first
      | (simp_all; done)
      | (intros; simp_all; done)
      | omega
  · intro h
    have K := h.kinded
    have k1 := K.ex7
    have k2 := K.ex
    have k3 := K.gap
    have k4 := K.b
    have k5 := K.text
    have k6 := K.text3
    have k7 := K.a
    have k8 := K.a1
    have k9 := h.sa
    have k10 := h.sb
    clear h K
    simp only [Mg.zero, Mg.mk.injEq, true_and]
    simp_all
theorem right_k5 (e1 : ¬ seq = 0) (e2 : small seq = true) (e3 : timeR time = true) (e4 : textB text = true) : (a ≠ 0 ∧ small a = true ∧ (⟨0, 0, 0, false, 0, b, false, text, ex⟩ : Mg) = Mg.zero) ↔ MsgR ⟨5, seq, time, copy, a, b, gap, text, ex⟩ := by
  have hs := seq_in e1 e2
  have zs := zero_small
  constructor
  · intro h
    simp only [Mg.zero, Mg.mk.injEq, true_and] at h
    refine ⟨by dsimp only; omega, hs, e3, ?_, ?_, e4, ⟨?_, ?_, ?_, ?_, ?_, ?_, ?_, ?_⟩⟩
    all_goals first
      | (simp_all; done)
      | (intros; simp_all; done)
      | omega
  · intro h
    have K := h.kinded
    have k1 := K.ex7
    have k2 := K.ex
    have k3 := K.gap
    have k4 := K.b
    have k5 := K.text
    have k6 := K.text3
    have k7 := K.a
    have k8 := K.a1
    have k9 := h.sa
    have k10 := h.sb
    clear h K
    simp only [Mg.zero, Mg.mk.injEq, true_and]
    simp_all
theorem right_k6 (e1 : ¬ seq = 0) (e2 : small seq = true) (e3 : timeR time = true) (e4 : textB text = true) : ((⟨0, 0, 0, false, a, b, gap, text, ex⟩ : Mg) = Mg.zero) ↔ MsgR ⟨6, seq, time, copy, a, b, gap, text, ex⟩ := by
  have hs := seq_in e1 e2
  have zs := zero_small
  constructor
  · intro h
    simp only [Mg.zero, Mg.mk.injEq, true_and] at h
    refine ⟨by dsimp only; omega, hs, e3, ?_, ?_, e4, ⟨?_, ?_, ?_, ?_, ?_, ?_, ?_, ?_⟩⟩
    all_goals first
      | (simp_all; done)
      | (intros; simp_all; done)
      | omega
  · intro h
    have K := h.kinded
    have k1 := K.ex7
    have k2 := K.ex
    have k3 := K.gap
    have k4 := K.b
    have k5 := K.text
    have k6 := K.text3
    have k7 := K.a
    have k8 := K.a1
    have k9 := h.sa
    have k10 := h.sb
    clear h K
    simp only [Mg.zero, Mg.mk.injEq, true_and]
    simp_all
theorem right_k7 (e1 : ¬ seq = 0) (e2 : small seq = true) (e3 : timeR time = true) (e4 : textB text = true) : (excB ex = true ∧ (⟨0, 0, 0, false, a, b, gap, text, Exc.zero⟩ : Mg) = Mg.zero) ↔ MsgR ⟨7, seq, time, copy, a, b, gap, text, ex⟩ := by
  have hs := seq_in e1 e2
  have zs := zero_small
  constructor
  · intro h
    simp only [Mg.zero, Mg.mk.injEq, true_and] at h
    refine ⟨by dsimp only; omega, hs, e3, ?_, ?_, e4, ⟨?_, ?_, ?_, ?_, ?_, ?_, ?_, ?_⟩⟩
    all_goals first
      | (simp_all; done)
      | (intros; simp_all; done)
      | omega
  · intro h
    have K := h.kinded
    have k1 := K.ex7
    have k2 := K.ex
    have k3 := K.gap
    have k4 := K.b
    have k5 := K.text
    have k6 := K.text3
    have k7 := K.a
    have k8 := K.a1
    have k9 := h.sa
    have k10 := h.sb
    clear h K
    simp only [Mg.zero, Mg.mk.injEq, true_and]
    simp_all
end
end Go.Proofs.YtcfpchcbiknehaaDoorR
