/-
  Layer 5, msg: what is said is read as it was, and what is read was said in just these fields: plain mathematics.
-/
import Derived.Test.YtcfpchcbiknehaaDoorRMsgMath
namespace Go.Proofs.YtcfpchcbiknehaaDoorR

theorem nmV_list (n : Int) : (nmV n).data.toList = showL n := by simp [nmV]
theorem ba_ext {a b : ByteArray} (h : a.data.toList = b.data.toList) : a = b := by
  cases a; cases b
  simp only at h
  rw [Array.toList_inj.1 h]
theorem nmV_parse {s : ByteArray} (h : parseE s.data.toList = 0) : nmV (parseV s.data.toList) = s := ba_ext (by rw [nmV_list, show_parse h])
theorem tkB_none {t : Int} {l : List Fld} (h : tkB t l = false) : tkV t l = eS ∧ tkL t l = l := by
  cases l with
  | nil => exact ⟨rfl, rfl⟩
  | cons f r =>
    have : ¬ f.tag = t := by simpa [tkB] using h
    exact ⟨if_neg this, if_neg this⟩
theorem tkB_some {t : Int} {l : List Fld} (h : tkB t l = true) : l = ⟨t, tkV t l⟩ :: tkL t l := by
  cases l with
  | nil => cases h
  | cons f r =>
    have : f.tag = t := by simpa [tkB] using h
    subst this
    simp [tkV, tkL]
theorem tk_cons (t : Int) (v : ByteArray) (r : List Fld) : tkV t (⟨t, v⟩ :: r) = v ∧ tkL t (⟨t, v⟩ :: r) = r ∧ tkB t (⟨t, v⟩ :: r) = true := ⟨if_pos rfl, if_pos rfl, decide_eq_true rfl⟩
theorem tkB_ne {t u : Int} (h : ¬ u = t) (v : ByteArray) (r : List Fld) : tkB t (⟨u, v⟩ :: r) = false := decide_eq_false h
theorem opt_tk {t : Int} {s : ByteArray} {r : List Fld} (h : tkB t r = false) : tkV t (opt t s ++ r) = s ∧ tkL t (opt t s ++ r) = r := by
  unfold opt
  by_cases hs : s = eS
  · rw [if_pos hs, hs]; exact tkB_none h
  · rw [if_neg hs]; exact ⟨(tk_cons t s r).1, (tk_cons t s r).2.1⟩
theorem optY_tk {t : Int} {b : Bool} {r : List Fld} (h : tkB t r = false) (ok : Bool) : (Tk.mk (optY t b ++ r) ok).yes t = ⟨r, ok⟩ ∧ (Tk.mk (optY t b ++ r) ok).yesV t = b := by
  cases b with
  | false =>
    have ⟨h1, h2⟩ := tkB_none h
    unfold Tk.yes Tk.yesV optY
    simp only [Bool.false_eq_true, if_false, List.nil_append]
    rw [h1, h2]
    exact ⟨by simp, by decide⟩
  | true =>
    have ⟨h1, h2, _⟩ := tk_cons t yV r
    unfold Tk.yes Tk.yesV optY
    simp only [if_true, List.singleton_append]
    rw [h1, h2]
    exact ⟨by simp, by simp⟩
theorem take_tk (t : Int) (v : ByteArray) (r : List Fld) (ok : Bool) : (Tk.mk (⟨t, v⟩ :: r) ok).take t = ⟨r, ok⟩ := by
  have ⟨_, h2, h3⟩ := tk_cons t v r
  unfold Tk.take; simp only; rw [h2, h3, Bool.and_true]
theorem num_tk {n : Int} (hn : right n = true) (t : Int) (r : List Fld) (ok : Bool) : (Tk.mk (⟨t, nmV n⟩ :: r) ok).num t = ⟨r, ok⟩ ∧ (Tk.mk (⟨t, nmV n⟩ :: r) ok).numV t = n := by
  have ⟨h1, h2, h3⟩ := tk_cons t (nmV n) r
  have ⟨h4, h5⟩ := parse_show hn
  unfold Tk.num Tk.numV; simp only; rw [h1, h2, h3, nmV_list, h4, h5]
  simp
theorem kindN_V {k : Int} (h : 1 ≤ k ∧ k ≤ 7) : kindN (kindV k) = k := by
  rcases (show k = 1 ∨ k = 2 ∨ k = 3 ∨ k = 4 ∨ k = 5 ∨ k = 6 ∨ k = 7 by omega) with rfl | rfl | rfl | rfl | rfl | rfl | rfl <;> decide
theorem kindV_N {s : ByteArray} (h : 1 ≤ kindN s) : kindV (kindN s) = s := by
  unfold kindN at h ⊢
  repeat' split
  all_goals first
    | (rename_i h1; rw [h1]; decide)
    | (rename_i h1; subst h1; decide)
    | skip
  all_goals simp_all
theorem small_right {n : Int} (h : small n = true) : right n = true := by
  have : 0 ≤ n ∧ n ≤ 1099511627776 := by simpa [small] using h
  exact right_t (by omega) (by omega)
theorem timeR_right {n : Int} (h : timeR n = true) : right n = true := by
  have : 0 ≤ n ∧ n ≤ 4611686018427387904 := by simpa [timeR] using h
  exact right_t (by omega) (by omega)
structure ExcR (x : Exc) : Prop where
  kind : 1 ≤ x.kind ∧ x.kind ≤ 8
  id : nm x.id = true
  order : nm x.order = true
  account : nm x.account = true
  symbol : nm x.symbol = true
  ref : refB x = true
  qty : small x.qty = true
  price : small x.price = true
  time : timeR x.time = true
theorem excB_iff {x : Exc} : excB x = true ↔ ExcR x := by
  unfold excB
  simp only [Bool.and_eq_true, decide_eq_true_eq]
  exact ⟨fun ⟨h1, h2, h3, h4, h5, h6, h7, h8, h9⟩ => ⟨h1, h2, h3, h4, h5, h6, h7, h8, h9⟩, fun ⟨h1, h2, h3, h4, h5, h6, h7, h8, h9⟩ => ⟨h1, h2, h3, h4, h5, h6, h7, h8, h9⟩⟩
theorem exRead_L {x : Exc} (h : ExcR x) : exRead ⟨exL x, true⟩ = (x, ⟨[], true⟩) := by
  have hk : right x.kind = true := right_t (by have := h.kind; omega) (by have := h.kind; omega)
  have hq := small_right h.qty
  have hp := small_right h.price
  have ht := timeR_right h.time
  obtain ⟨id, ref, order, account, symbol, kind, buy, qty, price, time⟩ := x
  have hkk := h.kind
  simp only at hk hq hp ht hkk
  unfold exRead exL
  simp only [take_tk, (tk_cons _ _ _).1]
  have e1 := opt_tk (t := 19) (s := ref) (r := [⟨11, order⟩, ⟨1, account⟩, ⟨55, symbol⟩, ⟨54, sideV buy⟩, ⟨150, nmV kind⟩, ⟨32, nmV qty⟩, ⟨31, nmV price⟩, ⟨60, nmV time⟩]) (tkB_ne (by decide) _ _)
  simp only [Tk.may, e1.1, e1.2, take_tk, (tk_cons _ _ _).1, Tk.bad]
  have hs2 : decide (sideV buy = ⟨#[50]⟩) = !buy := by cases buy <;> decide
  have hs1 : decide (sideV buy = ⟨#[49]⟩) = buy := by cases buy <;> decide
  have k1 : decide (kind < 1) = false := decide_eq_false (by omega)
  have k2 : decide (8 < kind) = false := decide_eq_false (by omega)
  have k3 : ¬ (kind < 1 ∨ 8 < kind) := by omega
  have k4 : (!buy && !!buy) = false := by cases buy <;> rfl
  simp only [hs2, hs1, (num_tk hk _ _ _).1, (num_tk hk _ _ _).2, k1, k2, k4, if_neg k3, (num_tk hq _ _ _).1, (num_tk hq _ _ _).2, (num_tk hp _ _ _).1, (num_tk hp _ _ _).2, (num_tk ht _ _ _).1, (num_tk ht _ _ _).2, Bool.or_self, Bool.not_false, Bool.and_true]
theorem rest_no43 (m : Mg) : tkB 43 (restL m) = false := by
  unfold restL
  split
  · exact tkB_ne (by decide) _ _
  · split
    · unfold opt; split
      · rfl
      · exact tkB_ne (by decide) _ _
    · split
      · exact tkB_ne (by decide) _ _
      · split
        · cases m.gap <;> exact tkB_ne (by decide) _ _
        · split
          · exact tkB_ne (by decide) _ _
          · rfl
theorem readT_L {m : Mg} (h : MsgR m) : readT (msgL m) = (m, ⟨[], true⟩) := by
  have hs : right m.seq = true := right_t (by have := h.seq; omega) (by have := h.seq; omega)
  have ht := timeR_right h.time
  have ha := small_right h.sa
  have hb := small_right h.sb
  have hh : headRead (msgL m) = (⟨m.kind, m.seq, m.time, m.copy, 0, 0, false, eS, Exc.zero⟩, ⟨restL m, true⟩) := by
    unfold headRead msgL
    simp only [take_tk, (tk_cons _ _ _).1, (num_tk hs _ _ _).1, (num_tk hs _ _ _).2, (num_tk ht _ _ _).1, (num_tk ht _ _ _).2, kindN_V h.kind, (optY_tk (rest_no43 m) true).1, (optY_tk (rest_no43 m) true).2]
  unfold readT
  rw [hh]
  have K := h.kinded
  have hk := h.kind
  obtain ⟨kind, seq, time, copy, a, b, gap, text, ex⟩ := m
  simp only at ha hb hk
  unfold restRead restL
  simp only
  rcases (show kind = 1 ∨ kind = 2 ∨ kind = 3 ∨ kind = 4 ∨ kind = 5 ∨ kind = 6 ∨ kind = 7 by omega) with rfl | rfl | rfl | rfl | rfl | rfl | rfl
  · have h1 := K.b (by simp)
    have h2 := K.gap (by simp)
    have h3 := K.text (by simp) (by simp)
    have h4 := K.ex (by simp)
    simp only at h1 h2 h3 h4
    simp [(num_tk ha _ _ _).1, (num_tk ha _ _ _).2, h1, h2, h3, h4]
  · have h1 := K.b (by simp)
    have h2 := K.gap (by simp)
    have h3 := K.a (by simp) (by simp) (by simp)
    have h4 := K.ex (by simp)
    have e1 := opt_tk (t := 112) (s := text) (r := []) rfl
    rw [List.append_nil] at e1
    simp only at h1 h2 h3 h4
    simp [Tk.may, e1.1, e1.2, h1, h2, h3, h4]
  · have h1 := K.b (by simp)
    have h2 := K.gap (by simp)
    have h3 := K.a (by simp) (by simp) (by simp)
    have h4 := K.ex (by simp)
    have e1 := opt_tk (t := 112) (s := text) (r := []) rfl
    rw [List.append_nil] at e1
    simp only at h1 h2 h3 h4
    simp [Tk.may, e1.1, e1.2, h1, h2, h3, h4]
  · have h2 := K.gap (by simp)
    have h3 := K.text (by simp) (by simp)
    have h4 := K.ex (by simp)
    simp only at h2 h3 h4
    simp [(num_tk ha _ _ _).1, (num_tk ha _ _ _).2, (num_tk hb _ _ _).1, (num_tk hb _ _ _).2, h2, h3, h4]
  · have h1 := K.b (by simp)
    have h3 := K.text (by simp) (by simp)
    have h4 := K.ex (by simp)
    have e1 := optY_tk (t := 123) (b := gap) (r := [⟨36, nmV a⟩]) (tkB_ne (by decide) _ _) true
    simp only at h1 h3 h4
    simp [e1.1, e1.2, (num_tk ha _ _ _).1, (num_tk ha _ _ _).2, h1, h3, h4]
  · have h1 := K.b (by simp)
    have h2 := K.gap (by simp)
    have h3 := K.text (by simp) (by simp)
    have h4 := K.ex (by simp)
    have h5 := K.a (by simp) (by simp) (by simp)
    simp only at h1 h2 h3 h4 h5
    simp [h1, h2, h3, h4, h5]
  · have h1 := K.b (by simp)
    have h2 := K.gap (by simp)
    have h3 := K.text (by simp) (by simp)
    have h5 := K.a (by simp) (by simp) (by simp)
    have h6 := exRead_L (excB_iff.1 (K.ex7 rfl))
    simp only at h1 h2 h3 h5 h6
    simp [h1, h2, h3, h5, h6]
theorem readM_L {m : Mg} (h : MsgR m) : readM (msgL m) = some m := by
  unfold readM
  rw [readT_L h, if_pos ⟨rfl, rfl, msgB_iff.2 h⟩]
end Go.Proofs.YtcfpchcbiknehaaDoorR
