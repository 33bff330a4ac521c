/-
  Layer 5, msg: what is read was said in just these fields; a message's body: plain mathematics.
-/
import Derived.Test.YtcfpchcbiknehaaDoorRMsgBackM
namespace Go.Proofs.YtcfpchcbiknehaaDoorR

theorem eS_iff {s : ByteArray} : s = eS ↔ s.size = 0 := by
  constructor
  · rintro rfl; rfl
  · intro h
    obtain ⟨⟨l⟩⟩ := s
    have : l.length = 0 := h
    rw [List.eq_nil_of_length_eq_zero this]; rfl
def Full (l : List Fld) : Prop := ∀ f ∈ l, f.val ≠ eS
theorem Full.tk {l : List Fld} (h : Full l) (t : Int) : Full (tkL t l) := by
  intro f hf
  cases l with
  | nil => exact absurd hf (by simp [tkL])
  | cons g r =>
    unfold tkL at hf
    dsimp only at hf
    split at hf
    · exact h f (List.mem_cons_of_mem _ hf)
    · exact h f hf
theorem full_of_right {l : List Fld} (h : l.all Fld.right = true) : Full l := by
  intro f hf h0
  have := List.all_eq_true.1 h f hf
  unfold Fld.right at this
  rw [h0] at this
  simp [eS, rightV] at this
theorem tkV_ne {l : List Fld} (h : Full l) {t : Int} : tkV t l = eS ↔ tkB t l = false := by
  cases l with
  | nil => simp [tkV, tkB]
  | cons f r =>
    have hf := h f (by simp)
    unfold tkV tkB
    by_cases ht : f.tag = t
    · simp [ht, hf]
    · simp [ht]
theorem take_inv {s : Tk} {t : Int} (h : (s.take t).ok = true) : s.ok = true ∧ s.l = ⟨t, tkV t s.l⟩ :: (s.take t).l := by
  unfold Tk.take at h ⊢
  simp only [Bool.and_eq_true] at h
  exact ⟨h.1, tkB_some h.2⟩
theorem num_inv {s : Tk} {t : Int} (h : (s.num t).ok = true) : s.ok = true ∧ s.l = ⟨t, nmV (s.numV t)⟩ :: (s.num t).l := by
  unfold Tk.num at h ⊢
  unfold Tk.numV
  simp only [Bool.and_eq_true, decide_eq_true_eq] at h
  rw [nmV_parse h.2.2]
  exact ⟨h.1, tkB_some h.2.1⟩
theorem may_inv {s : Tk} (hf : Full s.l) (t : Int) : s.l = opt t (tkV t s.l) ++ (s.may t).l := by
  unfold Tk.may opt
  by_cases h : tkV t s.l = eS
  · rw [if_pos h]; exact (tkB_none ((tkV_ne hf).1 h)).2.symm
  · rw [if_neg h]
    refine tkB_some ?_
    rcases hb : tkB t s.l with _ | _
    · exact absurd ((tkV_ne hf).2 hb) h
    · rfl
theorem yes_inv {s : Tk} (hf : Full s.l) {t : Int} (h : (s.yes t).ok = true) : s.ok = true ∧ s.l = optY t (s.yesV t) ++ (s.yes t).l := by
  unfold Tk.yes at h ⊢
  unfold Tk.yesV optY
  simp only [Bool.and_eq_true, Bool.or_eq_true, decide_eq_true_eq] at h
  refine ⟨h.1, ?_⟩
  have := may_inv hf t
  unfold Tk.may opt at this
  rcases h.2 with h | h
  · rw [if_pos h] at this
    rw [h, decide_eq_false (by decide)]
    exact this
  · rw [if_neg (by rw [h]; decide), h] at this
    rw [h, decide_eq_true rfl]
    exact this
theorem bad_inv {s : Tk} {b : Bool} (h : (s.bad b).ok = true) : s.ok = true ∧ b = false := by
  unfold Tk.bad at h
  simp only [Bool.and_eq_true, Bool.not_eq_true'] at h
  exact h
theorem side_back {s : ByteArray} (h : (!decide (s = ⟨#[49]⟩) && !decide (s = ⟨#[50]⟩)) = false) : sideV (decide (s = ⟨#[49]⟩)) = s := by
  by_cases h1 : s = ⟨#[49]⟩
  · rw [h1]; rfl
  · by_cases h2 : s = ⟨#[50]⟩
    · rw [h2]; rfl
    · simp [h1, h2] at h
theorem exRead_inv {s : Tk} (hf : Full s.l) (h : (exRead s).2.ok = true) : s.ok = true ∧ s.l = exL (exRead s).1 ++ (exRead s).2.l := by
  unfold exRead at h ⊢
  dsimp only at h ⊢
  generalize e1 : s.take 17 = s1 at *
  generalize e2 : s1.may 19 = s2 at *
  generalize e3 : s2.take 11 = s3 at *
  generalize e4 : s3.take 1 = s4 at *
  generalize e5 : s4.take 55 = s5 at *
  generalize e6 : s5.take 54 = s6 at *
  generalize e6' : s6.bad (!decide (tkV 54 s5.l = ⟨#[49]⟩) && !decide (tkV 54 s5.l = ⟨#[50]⟩)) = s6' at *
  generalize e7 : s6'.num 150 = s7 at *
  generalize e7' : s7.bad (decide (s6'.numV 150 < 1) || decide (8 < s6'.numV 150)) = s7' at *
  generalize e8 : s7'.num 32 = s8 at *
  generalize e9 : s8.num 31 = s9 at *
  have i10 := num_inv h
  have i9 := num_inv (s := s8) (t := 31) (by rw [e9]; exact i10.1)
  have i8 := num_inv (s := s7') (t := 32) (by rw [e8]; exact i9.1)
  have i7' := bad_inv (s := s7) (by rw [e7']; exact i8.1)
  have i7 := num_inv (s := s6') (t := 150) (by rw [e7]; exact i7'.1)
  have i6' := bad_inv (s := s6) (by rw [e6']; exact i7.1)
  have i6 := take_inv (s := s5) (t := 54) (by rw [e6]; exact i6'.1)
  have i5 := take_inv (s := s4) (t := 55) (by rw [e5]; exact i6.1)
  have i4 := take_inv (s := s3) (t := 1) (by rw [e4]; exact i5.1)
  have i3 := take_inv (s := s2) (t := 11) (by rw [e3]; exact i4.1)
  have hs2 : s1.ok = true := by have := i3.1; rw [← e2] at this; exact this
  have i1 := take_inv (s := s) (t := 17) (by rw [e1]; exact hs2)
  have hf1 : Full s1.l := by rw [← e1]; exact hf.tk 17
  have i2 := may_inv hf1 19
  refine ⟨i1.1, ?_⟩
  have l6' : s6'.l = s6.l := by rw [← e6']; rfl
  have l7' : s7'.l = s7.l := by rw [← e7']; rfl
  have hk : ¬ (s6'.numV 150 < 1 ∨ 8 < s6'.numV 150) := by
    have := i7'.2
    simpa using this
  rw [e1] at i1
  rw [e2] at i2
  rw [e3] at i3
  rw [e4] at i4
  rw [e5] at i5
  rw [e6] at i6
  rw [e7] at i7
  rw [e8] at i8
  rw [e9] at i9
  unfold exL
  dsimp only
  rw [if_neg hk, side_back i6'.2]
  conv => lhs; rw [i1.2, i2, i3.2, i4.2, i5.2, i6.2, ← l6', i7.2, ← l7', i8.2, i9.2, i10.2]
  simp
theorem restRead_inv {m : Mg} {s : Tk} (hf : Full s.l) (h : (restRead m s).2.ok = true) (h0 : (restRead m s).2.l = []) :
    s.ok = true ∧ s.l = restL (restRead m s).1 ∧ (restRead m s).1.kind = m.kind ∧ (restRead m s).1.seq = m.seq ∧ (restRead m s).1.time = m.time ∧ (restRead m s).1.copy = m.copy := by
  unfold restRead at h h0 ⊢
  by_cases k1 : m.kind = 1
  · rw [if_pos k1] at h h0 ⊢
    have i := num_inv h
    rw [h0] at i
    refine ⟨i.1, ?_, rfl, rfl, rfl, rfl⟩
    unfold restL; dsimp only
    rw [if_pos k1]; exact i.2
  · rw [if_neg k1] at h h0 ⊢
    by_cases k2 : m.kind = 2 ∨ m.kind = 3
    · rw [if_pos k2] at h h0 ⊢
      have i := may_inv hf 112
      rw [h0, List.append_nil] at i
      refine ⟨h, ?_, rfl, rfl, rfl, rfl⟩
      unfold restL; dsimp only
      rw [if_neg k1, if_pos k2]; exact i
    · rw [if_neg k2] at h h0 ⊢
      by_cases k4 : m.kind = 4
      · rw [if_pos k4] at h h0 ⊢
        have i := num_inv h
        have j := num_inv i.1
        rw [h0] at i
        refine ⟨j.1, ?_, rfl, rfl, rfl, rfl⟩
        unfold restL; dsimp only
        rw [if_neg k1, if_neg k2, if_pos k4]
        have := j.2
        rw [i.2] at this
        exact this
      · rw [if_neg k4] at h h0 ⊢
        by_cases k5 : m.kind = 5
        · rw [if_pos k5] at h h0 ⊢
          have i := num_inv h
          have j := yes_inv hf i.1
          rw [h0] at i
          refine ⟨j.1, ?_, rfl, rfl, rfl, rfl⟩
          unfold restL; dsimp only
          rw [if_neg k1, if_neg k2, if_neg k4, if_pos k5]
          have := j.2
          rw [i.2] at this
          exact this
        · rw [if_neg k5] at h h0 ⊢
          by_cases k7 : m.kind = 7
          · rw [if_pos k7] at h h0 ⊢
            have i := exRead_inv hf h
            rw [h0, List.append_nil] at i
            refine ⟨i.1, ?_, rfl, rfl, rfl, rfl⟩
            unfold restL; dsimp only
            rw [if_neg k1, if_neg k2, if_neg k4, if_neg k5, if_pos k7]; exact i.2
          · rw [if_neg k7] at h h0 ⊢
            refine ⟨h, ?_, rfl, rfl, rfl, rfl⟩
            unfold restL; dsimp only
            rw [if_neg k1, if_neg k2, if_neg k4, if_neg k5, if_neg k7]; exact h0
theorem readT_inv {l : List Fld} (hf : Full l) (h : (readT l).2.ok = true) (h0 : (readT l).2.l = []) (hk : 1 ≤ (readT l).1.kind) : msgL (readT l).1 = l := by
  have hf4 : Full (headRead l).2.l := ((hf.tk 35).tk 34).tk 52 |>.tk 43
  obtain ⟨g1, g2, g3, g4, g5, g6⟩ := restRead_inv hf4 h h0
  unfold msgL
  unfold readT at hk ⊢
  rw [← g2, g4, g5, g6]
  rw [g3] at hk ⊢
  unfold headRead at g1 hk ⊢
  dsimp only at g1 hk ⊢
  have i4 := yes_inv (((hf.tk 35).tk 34).tk 52) g1
  have i3 := num_inv i4.1
  have i2 := num_inv i3.1
  have i1 := take_inv i2.1
  rw [kindV_N hk, ← i4.2, ← i3.2, ← i2.2]
  exact i1.2.symm
theorem readM_some {l : List Fld} {m : Mg} (hf : Full l) (h : readM l = some m) : MsgR m ∧ msgL m = l := by
  unfold readM at h
  split at h
  · rename_i hc
    injection h with h
    subst h
    have hm := msgB_iff.1 hc.2.2
    exact ⟨hm, readT_inv hf hc.1 hc.2.1 hm.kind.1⟩
  · cases h
theorem msgL_inj {m m' : Mg} (h : MsgR m) (h' : MsgR m') (he : msgL m = msgL m') : m = m' := by
  have := readM_L h
  rw [he, readM_L h'] at this
  injection this with this
  exact this.symm
theorem parseL_err5 : ∀ {k n : Nat} {b : List UInt8} {e : Int}, parseL k n b = .error e → e ≠ 0
  | 0, _, _, _, h => by cases h
  | k + 1, n, b, e, h => by
    by_cases hb : b = []
    · subst hb; cases h
    · rw [parseL_cons hb] at h
      cases hs : split1 1 b with
      | none => rw [hs] at h; cases h; decide
      | some p =>
        obtain ⟨t, r⟩ := p
        rw [hs] at h
        simp only at h
        cases hr : readF t with
        | none => rw [hr] at h; cases h; decide
        | some f =>
          rw [hr] at h
          simp only at h
          by_cases h100 : n = 100
          · rw [if_pos h100] at h; cases h; decide
          · rw [if_neg h100] at h
            cases hp : parseL k (n + 1) r with
            | ok l => rw [hp] at h; cases h
            | error e' => rw [hp] at h; cases h; exact parseL_err5 hp
theorem parse_cases5 (b : List UInt8) (hb : b.length ≤ 65536) : (∃ e, parseF b = .error e ∧ e ≠ 0) ∨ ∃ l, parseF b = .ok l ∧ putL l = b ∧ l.all Fld.right = true ∧ l.length ≤ 100 := by
  unfold parseF
  rw [if_neg (by omega)]
  cases h : parseL b.length 0 b with
  | error e => left; exact ⟨e, rfl, parseL_err5 h⟩
  | ok l =>
    right
    have ⟨h1, h2, h3⟩ := parseL_ok (Nat.le_refl _) (by omega) h
    exact ⟨l, rfl, h1, h2, by omega⟩
/-! ### A message's fields are right ones, and its bytes a body -/
theorem nm_right {s : ByteArray} (h : nm s = true) : rightV s.data.toList = true ∧ s.size ≤ 16 := by
  unfold nm at h
  simp only [Bool.and_eq_true, decide_eq_true_eq] at h
  have hl : s.data.toList.length = s.size := by simp
  refine ⟨rightV_iff.2 ⟨fun h0 => ?_, by omega, fun h1 => ?_⟩, h.1.2⟩
  · rw [h0] at hl; simp at hl; omega
  · have := List.all_eq_true.1 h.2 1 h1
    simp [alnum] at this
theorem nmV_right {n : Int} (h0 : 0 ≤ n) (h : right n = true) : rightV (nmV n).data.toList = true ∧ (nmV n).size ≤ 20 := by
  have hp := (parse_show h).1
  have hl : (showL n).length ≤ 20 := by
    unfold parseE at hp
    split at hp
    · cases hp
    · omega
  have hf : formB (showL n) = true := by
    unfold parseE at hp
    split at hp
    · cases hp
    · split at hp
      · assumption
      · cases hp
  have hs : (nmV n).size = (showL n).length := by show (showL n).toArray.size = _; simp
  refine ⟨?_, by omega⟩
  rw [nmV_list]
  have hi : showL n = Lib.itoa n := by unfold showL; rw [if_pos h]
  have hne : isNeg (showL n) = false := by rw [hi, (itoa_parts n).1]; exact decide_eq_false (by omega)
  have hd := formD_digits hf
  have e : digitsOf (showL n) = showL n := by
    cases hx : showL n with
    | nil => rfl
    | cons c r =>
      rw [hx, isNeg_cons] at hne
      exact digitsOf_pos c r (by simpa using hne)
  rw [e] at hd
  exact rightV_iff.2 ⟨hd.1, by omega, fun h1 => by have := List.all_eq_true.1 hd.2 1 h1; simp [digB] at this⟩
/-- A field that a message may have: at most 64 bytes of value. -/
def MFld (f : Fld) : Prop := f.right = true ∧ f.val.size ≤ 64 ∧ ownT f.tag = false
theorem mfld {t : Int} {v : ByteArray} (ht : rightT t = true) (ho : ownT t = false) (hv : rightV v.data.toList = true ∧ v.size ≤ 64) : MFld ⟨t, v⟩ := ⟨by unfold Fld.right; rw [ht, hv.1]; rfl, hv.2, ho⟩
theorem mfld_num {t n : Int} (ht : rightT t = true) (ho : ownT t = false) (h0 : 0 ≤ n) (h : right n = true) : MFld ⟨t, nmV n⟩ := mfld ht ho ⟨(nmV_right h0 h).1, by have := (nmV_right h0 h).2; omega⟩
theorem mfld_name {t : Int} {s : ByteArray} (ht : rightT t = true) (ho : ownT t = false) (h : nm s = true) : MFld ⟨t, s⟩ := mfld ht ho ⟨(nm_right h).1, by have := (nm_right h).2; omega⟩
theorem exL_fld {x : Exc} (h : ExcR x) : ∀ f ∈ exL x, MFld f := by
  have hq := h.qty
  have hp := h.price
  have ht := h.time
  have hk := h.kind
  unfold small at hq hp
  unfold timeR at ht
  rw [decide_eq_true_eq] at hq hp ht
  intro f hf
  unfold exL at hf
  rcases List.mem_cons.1 hf with rfl | hf
  · exact mfld_name (by decide) (by decide) h.id
  rcases List.mem_append.1 hf with hf | hf
  · unfold opt at hf
    split at hf
    · cases hf
    · rename_i hne
      obtain rfl := List.mem_singleton.1 hf
      have hr := h.ref
      unfold refB at hr
      split at hr
      · exact mfld_name (by decide) (by decide) hr
      · exact absurd (of_decide_eq_true hr) hne
  · simp only [List.mem_cons, List.not_mem_nil, or_false] at hf
    rcases hf with rfl | rfl | rfl | rfl | rfl | rfl | rfl | rfl
    · exact mfld_name (by decide) (by decide) h.order
    · exact mfld_name (by decide) (by decide) h.account
    · exact mfld_name (by decide) (by decide) h.symbol
    · exact mfld (by decide) (by decide) (by cases x.buy <;> decide)
    · exact mfld_num (by decide) (by decide) (by omega) (right_t (by omega) (by omega))
    · exact mfld_num (by decide) (by decide) hq.1 (small_right h.qty)
    · exact mfld_num (by decide) (by decide) hp.1 (small_right h.price)
    · exact mfld_num (by decide) (by decide) ht.1 (timeR_right h.time)
theorem msgL_fld {m : Mg} (h : MsgR m) : ∀ f ∈ msgL m, MFld f := by
  have hs := h.seq
  have ha := h.sa
  have hb := h.sb
  have ht := h.time
  have hk := h.kind
  have K := h.kinded
  have hx := h.stext
  unfold small at ha hb
  unfold timeR at ht
  rw [decide_eq_true_eq] at ha hb ht
  have fy : ∀ {t : Int} {b : Bool}, rightT t = true → ownT t = false → ∀ f ∈ optY t b, MFld f := by
    intro t b h1 h2 f hf
    unfold optY at hf
    split at hf
    · obtain rfl := List.mem_singleton.1 hf
      exact mfld h1 h2 (by decide)
    · cases hf
  intro f hf
  unfold msgL at hf
  rcases List.mem_cons.1 hf with rfl | hf
  · refine mfld (by decide) (by decide) ?_
    rcases (show m.kind = 1 ∨ m.kind = 2 ∨ m.kind = 3 ∨ m.kind = 4 ∨ m.kind = 5 ∨ m.kind = 6 ∨ m.kind = 7 by omega) with h | h | h | h | h | h | h <;> rw [h] <;> decide
  rcases List.mem_cons.1 hf with rfl | hf
  · exact mfld_num (by decide) (by decide) (by omega) (right_t (by omega) (by omega))
  rcases List.mem_cons.1 hf with rfl | hf
  · exact mfld_num (by decide) (by decide) ht.1 (timeR_right h.time)
  rcases List.mem_append.1 hf with hf | hf
  · exact fy (by decide) (by decide) f hf
  · unfold restL at hf
    split at hf
    · obtain rfl := List.mem_singleton.1 hf
      exact mfld_num (by decide) (by decide) ha.1 (small_right h.sa)
    split at hf
    · unfold opt at hf
      split at hf
      · cases hf
      · rename_i hne
        obtain rfl := List.mem_singleton.1 hf
        refine mfld (by decide) (by decide) ?_
        unfold textB no1 at hx
        simp only [Bool.and_eq_true, decide_eq_true_eq] at hx
        have hl : m.text.data.toList.length = m.text.size := by simp
        refine ⟨rightV_iff.2 ⟨fun h0 => hne (eS_iff.2 (by rw [← hl, h0]; rfl)), by omega, fun h1 => ?_⟩, hx.1⟩
        have := List.all_eq_true.1 hx.2 1 h1
        simp at this
    split at hf
    · simp only [List.mem_cons, List.not_mem_nil, or_false] at hf
      rcases hf with rfl | rfl
      · exact mfld_num (by decide) (by decide) ha.1 (small_right h.sa)
      · exact mfld_num (by decide) (by decide) hb.1 (small_right h.sb)
    split at hf
    · rcases List.mem_append.1 hf with hf | hf
      · exact fy (by decide) (by decide) f hf
      · obtain rfl := List.mem_singleton.1 hf
        exact mfld_num (by decide) (by decide) ha.1 (small_right h.sa)
    split at hf
    · rename_i h7
      exact exL_fld (excB_iff.1 (K.ex7 h7)) f hf
    · cases hf
theorem opt_len (t : Int) (s : ByteArray) : (opt t s).length ≤ 1 := by unfold opt; split <;> simp
theorem optY_len (t : Int) (b : Bool) : (optY t b).length ≤ 1 := by unfold optY; split <;> simp
theorem restL_len (m : Mg) : (restL m).length ≤ 10 := by
  have h1 := opt_len 112 m.text
  have h2 := optY_len 123 m.gap
  have h3 := opt_len 19 m.ex.ref
  unfold restL
  split
  · simp
  split
  · omega
  split
  · simp
  split
  · simp; omega
  split
  · unfold exL; simp; omega
  · simp
theorem msgL_len (m : Mg) : 3 ≤ (msgL m).length ∧ (msgL m).length ≤ 14 := by
  have h1 := restL_len m
  have h2 := optY_len 43 m.copy
  unfold msgL
  simp only [List.length_cons, List.length_append]
  omega
theorem fldB_len64 {f : Fld} (h : MFld f) : (fldB f).length ≤ 70 := by
  have := show_len (t := f.tag) (by have := h.1; unfold Fld.right at this; simp only [Bool.and_eq_true] at this; exact this.1)
  have h2 := h.2.1
  have hl : f.val.data.toList.length = f.val.size := by simp
  unfold fldB
  simp only [List.length_append, List.length_cons, List.length_nil]
  omega
theorem putL_len64 : ∀ {l : List Fld}, (∀ f ∈ l, MFld f) → (putL l).length ≤ 70 * l.length
  | [], _ => by simp [putL]
  | f :: l, h => by
    have h1 := fldB_len64 (h f (by simp))
    have h2 := putL_len64 (l := l) fun g hg => h g (List.mem_cons_of_mem _ hg)
    have : putL (f :: l) = fldB f ++ putL l := by simp [putL]
    rw [this, List.length_append, List.length_cons]; omega
theorem msgL_right {m : Mg} (h : MsgR m) : (msgL m).all Fld.right = true := List.all_eq_true.2 fun f hf => (msgL_fld h f hf).1
theorem msg_parse {m : Mg} (h : MsgR m) : parseF (putL (msgL m)) = .ok (msgL m) := parseF_put (msgL_right h) (by have := (msgL_len m).2; omega)
theorem msg_bytes {m : Mg} (h : MsgR m) : 3 ≤ (putL (msgL m)).length ∧ (putL (msgL m)).length ≤ 980 := by
  have h1 := putL_len64 (msgL_fld h)
  have h2 := (putL_len (msgL_right h)).2
  have := msgL_len m
  omega
theorem msg_body {m : Mg} (h : MsgR m) : frmR (putL (msgL m)) = true := by
  have := msg_bytes h
  unfold frmR
  rw [msg_parse h, decide_eq_true (by omega)]
  show (true && (decide ((0 : Int) = 0) && ownFree (msgL m))) = true
  simp only [decide_true, Bool.true_and]
  exact List.all_eq_true.2 fun f hf => by rw [(msgL_fld h f hf).2.2]; rfl
theorem mRead_put {m : Mg} (h : MsgR m) : mReadV (putL (msgL m)) = m ∧ mReadE (putL (msgL m)) = 0 := by
  unfold mReadV mReadE
  rw [msg_parse h]
  dsimp only
  rw [readM_L h]
  exact ⟨rfl, rfl⟩
/-- What is read without an error was said so. -/
theorem mRead_ok {b : List UInt8} (h : mReadE b = 0) : MsgR (mReadV b) ∧ putL (msgL (mReadV b)) = b := by
  unfold mReadE at h
  unfold mReadV
  by_cases hb : 65536 < b.length
  · unfold parseF at h
    rw [if_pos hb] at h
    cases h
  · cases hp : parseF b with
    | error e =>
      rw [hp] at h
      dsimp only at h
      exfalso
      rcases parse_cases5 b (by omega) with ⟨e', he, hne⟩ | ⟨l, he, _⟩
      · rw [hp] at he; injection he with he; subst he; exact hne h
      · rw [hp] at he; cases he
    | ok l =>
      rw [hp] at h
      dsimp only at h ⊢
      rcases parse_cases5 b (by omega) with ⟨e', he, _⟩ | ⟨l', he, hl, hr, _⟩
      · rw [hp] at he; cases he
      · rw [hp] at he; injection he with he; subst he
        cases hm : readM l with
        | none => rw [hm] at h; cases h
        | some m =>
          obtain ⟨g1, g2⟩ := readM_some (full_of_right hr) hm
          exact ⟨g1, by show putL (msgL m) = b; rw [g2, hl]⟩
theorem mRead_bad {b : List UInt8} (h : mReadE b ≠ 0) : mReadV b = Mg.zero := by
  unfold mReadE at h
  unfold mReadV
  cases hp : parseF b with
  | error e => rfl
  | ok l =>
    rw [hp] at h
    dsimp only at h ⊢
    cases hm : readM l with
    | none => rfl
    | some m => rw [hm] at h; exact absurd rfl h
/-- Told as a copy or not: five bytes. -/
theorem msg_copy {m : Mg} (h : m.copy = false) : (putL (msgL { m with copy := true })).length = (putL (msgL m)).length + 5 := by
  have e1 : msgL { m with copy := true } = [⟨35, kindV m.kind⟩, ⟨34, nmV m.seq⟩, ⟨52, nmV m.time⟩] ++ ([⟨43, yV⟩] ++ restL m) := rfl
  have e2 : msgL m = [⟨35, kindV m.kind⟩, ⟨34, nmV m.seq⟩, ⟨52, nmV m.time⟩] ++ restL m := by unfold msgL; rw [h]; rfl
  have e3 : (putL [⟨43, yV⟩]).length = 5 := by
    have : showL 43 = [52, 51] := by
      unfold showL
      rw [if_pos (by decide)]
      show Lib.itoa 43 = _
      unfold Lib.itoa
      simp only [show ¬ (43 : Int) < 0 by decide, if_false]
      show Lib.decDigits 43 = _
      rw [decDigits_big (by decide), decDigits_small (by decide)]; rfl
    unfold putL fldB
    simp [this, yV]
  rw [e1, e2, putL_app, putL_app, putL_app, List.length_append, List.length_append, List.length_append, e3]
  omega
theorem msgR_copy {m : Mg} (b : Bool) (h : MsgR m) : MsgR { m with copy := b } := ⟨h.kind, h.seq, h.time, h.sa, h.sb, h.stext, ⟨h.kinded.ex7, h.kinded.ex, h.kinded.gap, h.kinded.b, h.kinded.text, h.kinded.text3, h.kinded.a, h.kinded.a1⟩⟩
end Go.Proofs.YtcfpchcbiknehaaDoorR
