/-
  Layer 7: how a session begins; what SessFills' messages are; what SessLost and SessKeeps say: plain mathematics.
-/
import Derived.Test.YtblkdmbkkimbpaaSessFill2
namespace Go.Proofs.Ytblkdmbkkimbpaa

/-! ### The beginning -/
def logon1 : Mg := { Mg.zero with kind := 1, seq := 1 }
theorem logon1_right : MsgR logon1 := say_right (k := 1) (a := 0) (b := 0) (seq := 1) (now := 0) (t := eS) (c := false) (g := false) (by decide) (by decide) (by decide) (by decide) (by decide) no1_nil (fun _ => rfl) (fun _ => rfl) (fun _ _ => rfl) (fun h => absurd h (by decide)) (fun h => absurd rfl h) (fun h => absurd h (by decide))
theorem empty_right {k : Int} (h : 1 ≤ k ∧ k ≤ 2199023255552) : (Ln.mk k []).rightB = true := rightB_iff.2 ⟨h, by simp, rfl, rfl⟩
theorem tm_ok {t : Int} (h : 0 ≤ t ∧ t ≤ 4611686018427387904) : tmB t = true := by simpa [tmB] using h
theorem start_connect {e t : Int} (he : 1 ≤ e ∧ e ≤ 1048576) (ht : 0 ≤ t ∧ t ≤ 4611686018427387904) : connectS (newS e) t = (⟨1, ⟨1, []⟩, 2, e, t, t, 0, 0, false⟩, [{ logonM e with seq := 1, time := t }], 0) := by
  have hr : (newS e).rightB = true := Ses.right_iff.2 ⟨(show (0 : Int) ≤ 0 ∧ (0 : Int) ≤ 2 by decide), empty_right (by decide), (show (1 : Int) ≤ 1 ∧ (1 : Int) ≤ 1099511627776 by decide), he, (show (0 : Int) ≤ 0 ∧ (0 : Int) ≤ 4611686018427387904 by decide), (show (0 : Int) ≤ 0 ∧ (0 : Int) ≤ 4611686018427387904 by decide), (show (0 : Int) ≤ 0 ∧ (0 : Int) ≤ 4611686018427387904 by decide), (show (0 : Int) ≤ 0 ∧ (0 : Int) ≤ 4611686018427387904 by decide)⟩
  unfold connectS
  rw [if_neg (by rw [hr, tm_ok ht]; decide), if_neg (show ¬ (newS e).st ≠ 0 from fun h => h rfl)]
  rfl
/-- A session that asks, behind its connecting. -/
def askedS (e h sd : Int) : Ses := ⟨1, ⟨1, []⟩, 2, e, h, sd, 0, 0, false⟩
def onS (e h sd : Int) : Ses := ⟨2, ⟨2, []⟩, 2, e, h, sd, 0, 0, false⟩
theorem come_logon : comeR ⟨1, []⟩ (itemM logon1) = (⟨2, []⟩, [itemM logon1], 1) := by
  have hm := im_may logon1_right
  unfold comeR
  rw [if_neg (by rw [empty_right (by decide), hm]; decide), if_neg (show ¬ (itemM logon1).till ≤ 1 by decide), if_pos (show (itemM logon1).fr ≤ 1 by decide)]
  rfl
theorem start_logon {e h sd t : Int} (he : 1 ≤ e ∧ e ≤ 1048576) (hh : 0 ≤ h ∧ h ≤ 4611686018427387904) (hs : 0 ≤ sd ∧ sd ≤ 4611686018427387904) (ht : 0 ≤ t ∧ t ≤ 4611686018427387904) :
    comeS (askedS e h sd) logon1 t = (onS e t sd, [], [], false, 0) := by
  have hr : (askedS e h sd).rightB = true := Ses.right_iff.2 ⟨(show (0 : Int) ≤ 1 ∧ (1 : Int) ≤ 2 by decide), empty_right (by decide), (show (1 : Int) ≤ 2 ∧ (2 : Int) ≤ 1099511627776 by decide), he, hh, hs, (show (0 : Int) ≤ 0 ∧ (0 : Int) ≤ 4611686018427387904 by decide), (show (0 : Int) ≤ 0 ∧ (0 : Int) ≤ 4611686018427387904 by decide)⟩
  unfold comeS
  rw [if_neg (by rw [hr, msgB_iff.2 logon1_right, tm_ok ht]; decide), if_neg (fun hc => by rcases hc with hc | hc; exact absurd (show (1 : Int) = 0 from hc) (by decide); exact hc.2 rfl), if_neg (fun hc => absurd (show (1 : Int) = 5 from hc.1) (by decide))]
  have hp : replyS (hearS (askedS e h sd) t) logon1 t = (hearS (askedS e h sd) t, []) := by
    unfold replyS
    rw [if_neg (show ¬ logon1.kind = 3 from by decide), if_neg (fun hc => absurd (show (1 : Int) = 4 from hc.1) (by decide))]
  rw [hp]
  dsimp only
  have hl : lineS (hearS (askedS e h sd) t) logon1 = onS e t sd := by
    unfold lineS
    rw [show (hearS (askedS e h sd) t).ln = ⟨1, []⟩ from rfl, come_logon]
    rfl
  rw [hl, show (hearS (askedS e h sd) t).ln = ⟨1, []⟩ from rfl, come_logon]
  rfl
theorem onS_R {e h sd : Int} (he : 1 ≤ e ∧ e ≤ 1048576) (hh : 0 ≤ h ∧ h ≤ 4611686018427387904) (hs : 0 ≤ sd ∧ sd ≤ 4611686018427387904) : (onS e h sd).R :=
  ⟨(show (0 : Int) ≤ 2 ∧ (2 : Int) ≤ 2 by decide), empty_right (by decide), (show (1 : Int) ≤ 2 ∧ (2 : Int) ≤ 1099511627776 by decide), he, hh, hs, (show (0 : Int) ≤ 0 ∧ (0 : Int) ≤ 4611686018427387904 by decide), (show (0 : Int) ≤ 0 ∧ (0 : Int) ≤ 4611686018427387904 by decide)⟩
/-- SessFills begins. -/
theorem fill_start {n : Int} (hn : 2 ≤ n) : P1 n 2 (onS 30 0 0) 2 0 2 [] [] :=
  ⟨⟨onS_R (by decide) (by decide) (by decide), rfl, ⟨rfl, rfl, (fun y hy => by cases hy), by omega, rfl, by simp⟩, rfl, rfl⟩, by omega, (fun f hf => by cases hf), .inl ⟨rfl, by decide, rfl⟩, rfl⟩
def exF : Exc := { Exc.zero with id := ⟨#[101]⟩, order := ⟨#[111]⟩, account := ⟨#[97]⟩, symbol := ⟨#[115]⟩, kind := 1 }
def repM (k : Int) (c : Bool) : Mg := { Mg.zero with kind := 7, seq := k, copy := c, ex := exF }
def lastM (n : Int) : Mg := { Mg.zero with kind := 2, seq := n }
theorem exF_right : excB exF = true := by decide
theorem repM_right {k : Int} {c : Bool} (h : 1 ≤ k ∧ k ≤ 1099511627776) : MsgR (repM k c) :=
  ⟨(show (1 : Int) ≤ 7 ∧ (7 : Int) ≤ 7 by decide), h, rfl, rfl, rfl, no1_nil, ⟨fun _ => exF_right, fun h => absurd rfl h, fun _ => rfl, fun _ => rfl, fun _ _ => rfl, fun h => absurd (show (7 : Int) = 3 from h) (by decide), fun _ _ _ => rfl, fun h => absurd (show (7 : Int) = 4 ∨ (7 : Int) = 5 from h) (by decide)⟩⟩
theorem lastM_right {n : Int} (h : 1 ≤ n ∧ n ≤ 1099511627776) : MsgR (lastM n) :=
  say_right (k := 2) (a := 0) (b := 0) (seq := n) (now := 0) (t := eS) (c := false) (g := false) (by decide) h (by decide) (by decide) (by decide) no1_nil (fun _ => rfl) (fun _ => rfl) (fun _ _ => rfl) (fun h => absurd h (by decide)) (fun _ _ _ => rfl) (fun h => absurd h (by decide))
theorem item_till {m : Mg} (h : m.kind ≠ 5) : (itemM m).till = (itemM m).fr + 1 := by
  show (if m.kind = 5 ∧ m.seq + 1 < m.a then m.a else m.seq + 1) = m.seq + 1
  exact if_neg fun hc => h hc.1
theorem repM_one {n k : Int} {c : Bool} (h : 1 ≤ k ∧ k < n) : One n (itemM (repM k c)) :=
  ⟨item_till (show (7 : Int) ≠ 5 by decide), ⟨h.1, (by show k ≤ n; omega)⟩, ⟨fun _ => h.2, fun _ => rfl⟩⟩
theorem lastM_one {n : Int} (h : 1 ≤ n) : One n (itemM (lastM n)) :=
  ⟨item_till (show (2 : Int) ≠ 5 by decide), ⟨h, Int.le_refl _⟩, ⟨fun hc => absurd (show (2 : Int) = 7 from hc) (by decide), fun hc => absurd (show n < n from hc) (by omega)⟩⟩
/-! ### Who isn't heard -/
def cntK (k : Int) (l : List Mg) : Nat := (l.filter fun m => decide (m.kind = k)).length
/-- How it stands behind the tick at t. -/
structure LS (n t : Int) (s : Ses) : Prop where
  r : s.R
  st : s.st = 2
  ln : s.ln = ⟨2, []⟩
  every : s.every = n
  heard : s.heard = 0
  sd : 0 ≤ s.said ∧ s.said ≤ t
  sd0 : t < n → s.said = 0
  out : s.out ≤ 2 + 2 * t
  tested : s.tested = decide (2 * n ≤ t)
theorem lost_start {n : Int} (hn : 1 ≤ n ∧ n ≤ 1048576) : LS n 0 (onS n 0 0) :=
  ⟨onS_R hn (by decide) (by decide), rfl, rfl, rfl, rfl, (show (0 : Int) ≤ 0 ∧ (0 : Int) ≤ 0 by decide), fun _ => rfl, (show (2 : Int) ≤ 2 + 2 * 0 by decide), (decide_eq_false (by omega)).symm⟩
theorem lost_step {n t : Int} {s : Ses} (h : LS n t s) (hn : 1 ≤ n ∧ n ≤ 20) (ht : 0 ≤ t ∧ t + 1 < 3 * n) :
    ∃ s' said, tickS s (t + 1) = (s', said, 0) ∧ LS n (t + 1) s' ∧ cntK 3 said = (if t + 1 = 2 * n then 1 else 0) ∧ (t + 1 = n → 1 ≤ cntK 2 said) ∧ said.length ≤ 2 := by
  have hr := Ses.right_iff.2 h.r
  have htm : tmB (t + 1) = true := tm_ok (by omega)
  have hn2 : 0 ≤ t + 1 ∧ t + 1 ≤ 4611686018427387904 := by omega
  have ho := h.out
  have hs := h.sd
  have hs0 := h.sd0
  unfold tickS
  rw [if_neg (by rw [hr, htm]; decide), if_neg (by rw [h.st]; decide), if_neg (by rw [h.every, h.heard]; omega), if_neg (by rw [h.st]; decide)]
  dsimp only
  -- the test
  obtain ⟨s1, l1, e1, h1r, h1st, h1ln, h1e, h1h, h1s, h1o, h1t, h1c3, h1c2, h1l⟩ : ∃ s1 l1, testS s (t + 1) = (s1, l1) ∧ s1.R ∧ s1.st = 2 ∧ s1.ln = ⟨2, []⟩ ∧ s1.every = n ∧ s1.heard = 0 ∧ (0 ≤ s1.said ∧ s1.said ≤ t + 1 ∧ (t + 1 < n → s1.said = 0) ∧ (t + 1 = n → s1.said = 0)) ∧ s1.out ≤ s.out + 1 ∧ s1.tested = decide (2 * n ≤ t + 1) ∧ cntK 3 l1 = (if t + 1 = 2 * n then 1 else 0) ∧ cntK 2 l1 = 0 ∧ l1.length ≤ 1 := by
    unfold testS
    by_cases hc : 2 * n ≤ t + 1 ∧ s.tested = false
    · rw [if_pos (by rw [h.every, h.heard]; exact ⟨by omega, hc.2⟩)]
      have htt := h.tested
      rw [hc.2] at htt
      have h2 := of_decide_eq_false htt.symm
      have hR := sayS_R h.r testM hn2
      unfold sayS at hR ⊢
      rw [if_neg (by omega)] at hR ⊢
      refine ⟨_, _, rfl, ⟨hR.st, hR.ln, hR.out, hR.every, hR.heard, hR.said, hR.asked, hR.at_⟩, h.st, h.ln, h.every, h.heard, ⟨hn2.1, Int.le_refl _, fun hh => by omega, fun hh => by omega⟩, Int.le_refl _, (decide_eq_true hc.1).symm, ?_, rfl, Nat.le_refl _⟩
      rw [if_pos (by omega)]; rfl
    · rw [if_neg (by rw [h.every, h.heard]; intro hh; exact hc ⟨by omega, hh.2⟩)]
      refine ⟨_, _, rfl, h.r, h.st, h.ln, h.every, h.heard, ⟨hs.1, by omega, fun hh => hs0 (by omega), fun hh => hs0 (by omega)⟩, by omega, ?_, ?_, rfl, Nat.zero_le _⟩
      · rw [h.tested]
        by_cases h3 : 2 * n ≤ t
        · rw [decide_eq_true h3, decide_eq_true (by omega)]
        · rw [decide_eq_false h3, decide_eq_false (fun h4 => hc ⟨h4, by rw [h.tested]; exact decide_eq_false h3⟩)]
      · rw [if_neg (fun h4 => hc ⟨by omega, by rw [h.tested]; exact decide_eq_false (by omega)⟩)]; rfl
  rw [e1]
  dsimp only
  -- the beat
  obtain ⟨s2, l2, e2, h2⟩ : ∃ s2 l2, beatS s1 (t + 1) = (s2, l2) ∧ s2.R ∧ s2.st = 2 ∧ s2.ln = ⟨2, []⟩ ∧ s2.every = n ∧ s2.heard = 0 ∧ (0 ≤ s2.said ∧ s2.said ≤ t + 1) ∧ (t + 1 < n → s2.said = 0) ∧ s2.out ≤ s.out + 2 ∧ s2.tested = decide (2 * n ≤ t + 1) ∧ cntK 3 l2 = 0 ∧ (t + 1 = n → 1 ≤ cntK 2 l2) ∧ l2.length ≤ 1 := by
    unfold beatS
    by_cases hc : n ≤ t + 1 - s1.said
    · rw [if_pos (by rw [h1e]; exact hc)]
      have hR := sayS_R h1r (beatM eS) hn2
      unfold sayS at hR ⊢
      rw [if_neg (by omega)] at hR ⊢
      exact ⟨_, _, rfl, hR, h1st, h1ln, h1e, h1h, ⟨hn2.1, Int.le_refl _⟩, fun hh => by have := h1s.2.2.1 hh; omega, by show s1.out + 1 ≤ _; omega, h1t, rfl, (fun _ => Nat.le_refl _), Nat.le_refl _⟩
    · rw [if_neg (by rw [h1e]; exact hc)]
      exact ⟨_, _, rfl, h1r, h1st, h1ln, h1e, h1h, ⟨h1s.1, h1s.2.1⟩, h1s.2.2.1, by omega, h1t, rfl, (fun hh => by have := h1s.2.2.2 hh; omega), Nat.zero_le _⟩
  rw [e2]
  dsimp only
  obtain ⟨h2r, h2st, h2ln, h2e, h2h, h2s, h2s0, h2o, h2t, h2c3, h2c2, h2l⟩ := h2
  have e3 : againS s2 (t + 1) = (s2, []) := by
    unfold againS
    rw [if_neg (fun hc => by rw [h2ln] at hc; exact hc.1 rfl)]
  rw [e3]
  refine ⟨s2, l1 ++ l2 ++ [], rfl, ⟨h2r, h2st, h2ln, h2e, h2h, h2s, h2s0, by omega, h2t⟩, ?_, (fun hh => ?_), by simp; omega⟩
  · unfold cntK at *
    rw [List.append_nil, List.filter_append, List.length_append, h1c3, h2c3]; rfl
  · have := h2c2 hh
    unfold cntK at *
    rw [List.append_nil, List.filter_append, List.length_append]; omega
theorem lost_end {n t : Int} {s : Ses} (h : LS n t s) (hn : 1 ≤ n ∧ n ≤ 20) {x : Int} (hx : 3 * n ≤ x ∧ x ≤ 4611686018427387904) : tickS s x = ({ s with st := 0 }, [], 0) := by
  unfold tickS
  rw [if_neg (by rw [Ses.right_iff.2 h.r, tm_ok (by omega)]; decide), if_neg (by rw [h.st]; decide), if_pos (by rw [h.every, h.heard]; omega)]
/-! ### Dropped, and connected again -/
theorem keeps_drop {s : Ses} (h : s.R) : dropS s = { s with st := 0, ln := ⟨s.ln.next, []⟩ } ∧ (dropS s).R := by
  have e : dropS s = { s with st := 0, ln := ⟨s.ln.next, []⟩ } := if_pos (Ses.right_iff.2 h)
  rw [e]
  exact ⟨rfl, (show (0 : Int) ≤ 0 ∧ (0 : Int) ≤ 2 by decide), empty_right (right_next h.ln), h.out, h.every, h.heard, h.said, h.asked, h.at_⟩
end Go.Proofs.Ytblkdmbkkimbpaa
