/-
  Layer 7: what SessOrder says, act by act: plain mathematics.
-/
import Derived.Test.YtblkdmbkkimbpaaSessMath
namespace Go.Proofs.Ytblkdmbkkimbpaa

/-! ### What is said may be said -/
theorem no1_nil : textB eS = true := by decide
theorem small_iff {n : Int} : small n = true ↔ 0 ≤ n ∧ n ≤ 1099511627776 := by simp [small]
theorem timeR_iff {n : Int} : timeR n = true ↔ 0 ≤ n ∧ n ≤ 4611686018427387904 := by simp [timeR]
theorem say_right {k a b seq now : Int} {t : ByteArray} {c g : Bool} (hk : 1 ≤ k ∧ k ≤ 6) (hs : 1 ≤ seq ∧ seq ≤ 1099511627776) (hn : 0 ≤ now ∧ now ≤ 4611686018427387904) (ha : 0 ≤ a ∧ a ≤ 1099511627776) (hb : 0 ≤ b ∧ b ≤ 1099511627776) (ht : textB t = true)
    (h1 : k ≠ 5 → g = false) (h2 : k ≠ 4 → b = 0) (h3 : k ≠ 2 → k ≠ 3 → t = eS) (h4 : k = 3 → t ≠ eS) (h5 : k ≠ 1 → k ≠ 4 → k ≠ 5 → a = 0) (h6 : k = 4 ∨ k = 5 → a ≠ 0) : MsgR ⟨k, seq, now, c, a, b, g, t, Exc.zero⟩ :=
  ⟨⟨hk.1, Int.le_trans hk.2 (by decide)⟩, hs, timeR_iff.2 hn, small_iff.2 ha, small_iff.2 hb, ht, ⟨fun h => absurd (show k = 7 from h) (by omega), fun _ => rfl, h1, h2, h3, h4, h5, h6⟩⟩
/-- An item of a message: its place is its number; one number alone but of a Reset. -/
structure IM (y : Itm) : Prop where
  seq : y.m.seq = y.fr
  one : y.m.kind ≠ 5 → y.till = y.fr + 1
  fr : 1 ≤ y.fr ∧ y.fr ≤ 1099511627776
  till : y.till ≤ 1099511627777
theorem im_of {m : Mg} (h : MsgR m) : IM (itemM m) :=
  ⟨rfl, fun hk => by show (if _ then _ else _) = _; rw [if_neg (fun hc => hk hc.1)]; rfl, h.seq, by
    show (if _ then _ else _) ≤ _
    have h1 := (small_iff.1 h.sa).2
    have h2 := h.seq
    by_cases hc : m.kind = 5 ∧ m.seq + 1 < m.a
    · rw [if_pos hc]; exact Int.le_trans h1 (by omega)
    · rw [if_neg hc]; omega⟩
theorem im_may {m : Mg} (h : MsgR m) : (itemM m).mayB = true := by
  have h1 := im_of h
  refine mayB_iff.2 ⟨h1.fr.1, ?_, by have := h1.till; omega⟩
  show m.seq < if _ then _ else _
  by_cases hc : m.kind = 5 ∧ m.seq + 1 < m.a
  · rw [if_pos hc]; have := hc.2; omega
  · rw [if_neg hc]; omega
/-! ### What is held, and told, was held or came -/
theorem drain_mem (p : Itm → Prop) : ∀ (l : List Itm) (n : Int), (∀ y ∈ l, p y) → (∀ y ∈ (drain n l).1, p y) ∧ ∀ y ∈ (drain n l).2.2, p y
  | [], _, _ => ⟨(fun y h => by cases h), (fun y h => by cases h)⟩
  | x :: r, n, h => by
    unfold drain
    have hr := fun y hy => h y (List.mem_cons_of_mem _ hy)
    split
    · split
      · have ih := drain_mem p r x.till hr
        exact ⟨fun y hy => by
          rcases List.mem_cons.1 hy with rfl | hy
          · exact h _ (List.mem_cons_self ..)
          · exact ih.1 y hy, ih.2⟩
      · exact drain_mem p r n hr
    · exact ⟨(fun y h => by cases h), h⟩
theorem putIn_mem (p : Itm → Prop) (x : Itm) (hx : p x) : ∀ l : List Itm, (∀ y ∈ l, p y) → ∀ y ∈ putIn x l, p y
  | [], _, y, hy => by
    rcases List.mem_cons.1 hy with rfl | hy
    · exact hx
    · cases hy
  | z :: r, h, y, hy => by
    unfold putIn at hy
    split at hy
    · rcases List.mem_cons.1 hy with rfl | hy
      · exact hx
      · exact h y hy
    · rcases List.mem_cons.1 hy with rfl | hy
      · exact h _ (List.mem_cons_self ..)
      · exact putIn_mem p x hx r (fun u hu => h u (List.mem_cons_of_mem _ hu)) y hy
theorem come_mem (p : Itm → Prop) {l : Ln} {x : Itm} (hx : p x) (h : ∀ y ∈ l.held, p y) : (∀ y ∈ (comeR l x).1.held, p y) ∧ ∀ y ∈ (comeR l x).2.1, p y := by
  unfold comeR
  have h0 : ∀ y ∈ ([] : List Itm), p y := fun y hy => by cases hy
  split
  · exact ⟨h, h0⟩
  split
  · exact ⟨h, h0⟩
  split
  · have hd := drain_mem p l.held x.till h
    exact ⟨hd.2, fun y hy => by
      rcases List.mem_cons.1 hy with rfl | hy
      · exact hx
      · exact hd.1 y hy⟩
  split
  · exact ⟨h, h0⟩
  split
  · exact ⟨h, h0⟩
  exact ⟨putIn_mem p x hx l.held h, h0⟩
/-! ### Reports in order -/
def lastOf (last : Int) : List Mg → Int
  | [] => last
  | m :: r => lastOf m.seq r
/-- Each is a Report, their numbers rise, from above last on, and are below n. -/
def ToldOk (last n : Int) : List Mg → Prop
  | [] => True
  | m :: r => m.kind = 7 ∧ last < m.seq ∧ m.seq < n ∧ ToldOk m.seq n r
theorem told_ok : ∀ (l : List Itm) (q n last : Int), (∀ y ∈ l, IM y) → Chain q l n → last < q → ToldOk last n (tellS l) ∧ lastOf last (tellS l) < n
  | [], q, n, last, _, hc, hl => ⟨trivial, by have : n = q := hc; show last < n; omega⟩
  | y :: r, q, n, last, hi, hc, hl => by
    have hy := hi y (List.mem_cons_self ..)
    have hr := fun u hu => hi u (List.mem_cons_of_mem _ hu)
    have hle := hc.2.2.le
    by_cases h7 : y.m.kind = 7
    · have e : tellS (y :: r) = y.m :: tellS r := by unfold tellS; rw [List.filter_cons_of_pos (by simpa using h7), List.map_cons]
      have ho := hy.one (by omega)
      have h1 := hc.1
      have h2 := hc.2.1
      have ih := told_ok r y.till n y.m.seq hr hc.2.2 (by rw [hy.seq]; omega)
      rw [e]
      exact ⟨⟨h7, by rw [hy.seq]; omega, by rw [hy.seq]; omega, ih.1⟩, ih.2⟩
    · have e : tellS (y :: r) = tellS r := by unfold tellS; rw [List.filter_cons_of_neg (by simpa using h7)]
      rw [e]
      exact told_ok r y.till n last hr hc.2.2 (by have := hc.2.1; omega)
theorem chain_top : ∀ (l : List Itm) (q n : Int), (∀ y ∈ l, y.till ≤ 1099511627777) → Chain q l n → q ≤ 1099511627777 → n ≤ 1099511627777
  | [], q, n, _, hc, hq => by have : n = q := hc; omega
  | y :: r, q, n, h, hc, _ => chain_top r y.till n (fun u hu => h u (List.mem_cons_of_mem _ hu)) hc.2.2 (h y (List.mem_cons_self ..))
/-! ### What is said has rising numbers, but a Reset -/
def outOf (out : Int) : List Mg → Int
  | [] => out
  | m :: r => outOf (if m.kind = 5 then out else m.seq) r
def SaidOk (out now : Int) : List Mg → Prop
  | [] => True
  | m :: r => MsgR m ∧ m.time = now ∧ (m.kind ≠ 5 → m.seq = out + 1) ∧ SaidOk (if m.kind = 5 then out else m.seq) now r
theorem saidOk_app : ∀ (a b : List Mg) (out now : Int), SaidOk out now a → SaidOk (outOf out a) now b → SaidOk out now (a ++ b) ∧ outOf out (a ++ b) = outOf (outOf out a) b
  | [], _, _, _, _, hb => ⟨hb, rfl⟩
  | m :: r, b, out, now, ha, hb => by
    have ih := saidOk_app r b _ now ha.2.2.2 hb
    exact ⟨⟨ha.1, ha.2.1, ha.2.2.1, ih.1⟩, ih.2⟩
/-- A session as SessOrder finds it. -/
structure OI (s : Ses) (last out : Int) : Prop where
  r : s.R
  o : s.out = out + 1
  l : last < s.ln.next
  n : s.ln.next ≤ 1099511627777
  held : ∀ y ∈ s.ln.held, IM y
theorem say_ok {s : Ses} (h : s.R) {m : Mg} {out now : Int} (ho : s.out = out + 1) (h5 : m.kind ≠ 5) (hm : s.out ≤ 1099511627776 → MsgR { m with seq := s.out, time := now }) :
    SaidOk out now (sayS s m now).2 ∧ (sayS s m now).1.out = outOf out (sayS s m now).2 + 1 ∧ (sayS s m now).1.ln = s.ln := by
  unfold sayS
  split
  · exact ⟨trivial, ho, rfl⟩
  · refine ⟨⟨hm h.out.2, rfl, fun _ => ho, trivial⟩, ?_, rfl⟩
    show s.out + 1 = (if m.kind = 5 then out else s.out) + 1
    rw [if_neg h5]
theorem ask_ok {s : Ses} {last out now : Int} (h : OI s last out) (hn : 0 ≤ now ∧ now ≤ 4611686018427387904) :
    SaidOk out now (askS s now).2 ∧ OI (askS s now).1 last (outOf out (askS s now).2) ∧ (askS s now).1.ln = s.ln := by
  have hR := askS_R h.r hn
  revert hR
  unfold askS
  split
  · exact fun _ => ⟨trivial, h, rfl⟩
  · rename_i y r hl
    split
    · exact fun _ => ⟨trivial, h, rfl⟩
    · intro hR
      have h1 := right_next h.r.ln
      have h2 := right_head h.r.ln hl
      have hy := h.held y (by rw [hl]; exact List.mem_cons_self ..)
      have h3 := hy.fr
      have hs := say_ok h.r (m := resendM s.ln.next (min (y.fr - 1) (s.ln.next + 9))) (now := now) h.o (show (4 : Int) ≠ 5 by decide) (fun hle => say_right (k := 4) (a := s.ln.next) (b := min (y.fr - 1) (s.ln.next + 9)) (t := eS) (c := false) (g := false) (by decide) ⟨h.r.out.1, hle⟩ hn (by omega) (by omega) no1_nil (fun _ => rfl) (fun h => absurd rfl h) (fun _ _ => rfl) (fun h => absurd h (by decide)) (fun _ h => absurd rfl h) (fun _ => by omega))
      refine ⟨hs.1, ⟨hR, hs.2.1, ?_, ?_, ?_⟩, hs.2.2⟩
      · show last < ((sayS _ _ _).1.ln).next; rw [hs.2.2]; exact h.l
      · show ((sayS _ _ _).1.ln).next ≤ _; rw [hs.2.2]; exact h.n
      · show ∀ y ∈ ((sayS _ _ _).1.ln).held, IM y; rw [hs.2.2]; exact h.held
theorem OI.of {s t : Ses} {last out : Int} (h : OI s last out) (hR : t.R) (ho : t.out = s.out) (hl : t.ln = s.ln) : OI t last out :=
  ⟨hR, ho.trans h.o, by rw [hl]; exact h.l, by rw [hl]; exact h.n, by rw [hl]; exact h.held⟩
/-- What an act comes to. -/
structure Done (s n : Ses) (said told : List Mg) (last out now : Int) : Prop where
  sd : SaidOk out now said
  td : ToldOk last n.ln.next told
  oi : OI n (lastOf last told) (outOf out said)
  next : s.ln.next ≤ n.ln.next
theorem Done.same {s : Ses} {last out now : Int} (h : OI s last out) : Done s s [] [] last out now := ⟨trivial, trivial, h, Int.le_refl _⟩
theorem drop_ok {s : Ses} {last out now : Int} (h : OI s last out) : Done s (dropS s) [] [] last out now := by
  unfold dropS
  split
  · have h1 := right_next h.r.ln
    exact ⟨trivial, trivial, ⟨⟨(show (0 : Int) ≤ 0 ∧ (0 : Int) ≤ 2 by decide), rightB_iff.2 ⟨h1, by simp, rfl, rfl⟩, h.r.out, h.r.every, h.r.heard, h.r.said, h.r.asked, h.r.at_⟩, h.o, h.l, h.n, fun y hy => by cases hy⟩, Int.le_refl _⟩
  · exact .same h
theorem reply_ok {s : Ses} {last out now : Int} {m : Mg} (h : OI s last out) (hm : MsgR m) (hn : 0 ≤ now ∧ now ≤ 4611686018427387904) :
    SaidOk out now (replyS s m now).2 ∧ OI (replyS s m now).1 last (outOf out (replyS s m now).2) ∧ (replyS s m now).1.ln = s.ln := by
  unfold replyS
  split
  · have hs := say_ok h.r (m := beatM m.text) (now := now) h.o (show (2 : Int) ≠ 5 by decide) (fun hle => say_right (k := 2) (a := 0) (b := 0) (t := m.text) (c := false) (g := false) (by decide) ⟨h.r.out.1, hle⟩ hn (by decide) (by decide) hm.stext (fun _ => rfl) (fun _ => rfl) (fun h => absurd rfl h) (fun h => absurd h (by decide)) (fun _ _ _ => rfl) (fun h => absurd h (by decide)))
    refine ⟨hs.1, ⟨sayS_R h.r _ hn, hs.2.1, ?_, ?_, ?_⟩, hs.2.2⟩
    · show last < ((sayS _ _ _).1.ln).next; rw [hs.2.2]; exact h.l
    · show ((sayS _ _ _).1.ln).next ≤ _; rw [hs.2.2]; exact h.n
    · show ∀ y ∈ ((sayS _ _ _).1.ln).held, IM y; rw [hs.2.2]; exact h.held
  split
  · rename_i h4
    have ha := small_iff.1 hm.sa
    have hne := hm.kinded.a1 (.inl h4.1)
    have ho := h.r.out
    refine ⟨⟨say_right (k := 5) (a := s.out) (b := 0) (t := eS) (c := true) (g := true) (by decide) (by omega) hn (by omega) (by decide) no1_nil (fun h => absurd rfl h) (fun _ => rfl) (fun _ _ => rfl) (fun h => absurd h (by decide)) (fun _ _ h => absurd rfl h) (fun _ => by omega), rfl, fun h => absurd rfl h, trivial⟩, ?_, rfl⟩
    have e : outOf out [resetM m.a s.out now] = out := (show (if (5 : Int) = 5 then out else m.a) = out from if_pos rfl)
    show OI s last (outOf out [resetM m.a s.out now])
    rw [e]
    exact h
  · exact ⟨trivial, h, rfl⟩
theorem line_ok {s : Ses} {last out : Int} {m : Mg} (h : OI s last out) (hm : MsgR m) :
    OI (lineS s m) (lastOf last (tellS (comeR s.ln (itemM m)).2.1)) out ∧ ToldOk last (lineS s m).ln.next (tellS (comeR s.ln (itemM m)).2.1) ∧ s.ln.next ≤ (lineS s m).ln.next := by
  have hi := im_of hm
  have hcs := come_spec h.r.ln (im_may hm)
  have hmem := come_mem IM (l := s.ln) hi h.held
  have ht := told_ok _ _ _ _ hmem.2 hcs.2.1 h.l
  have hle := hcs.2.1.le
  refine ⟨⟨⟨h.r.st, hcs.1, h.r.out, h.r.every, h.r.heard, h.r.said, h.r.asked, h.r.at_⟩, h.o, ht.2, ?_, hmem.1⟩, ht.1, hle⟩
  show (comeR s.ln (itemM m)).1.next ≤ _
  exact chain_top _ _ _ (fun y hy => (hmem.2 y hy).till) hcs.2.1 h.n
theorem test_ok {s : Ses} {last out now : Int} (h : OI s last out) (hn : 0 ≤ now ∧ now ≤ 4611686018427387904) :
    SaidOk out now (testS s now).2 ∧ OI (testS s now).1 last (outOf out (testS s now).2) ∧ (testS s now).1.ln = s.ln := by
  unfold testS
  split
  · have hs := say_ok h.r (m := testM) (now := now) h.o (show (3 : Int) ≠ 5 by decide) (fun hle => say_right (k := 3) (a := 0) (b := 0) (t := ⟨#[116]⟩) (c := false) (g := false) (by decide) ⟨h.r.out.1, hle⟩ hn (by decide) (by decide) (by decide) (fun _ => rfl) (fun _ => rfl) (fun _ h => absurd rfl h) (fun _ => by decide) (fun _ _ _ => rfl) (fun h => absurd h (by decide)))
    have hR := sayS_R h.r testM hn
    refine ⟨hs.1, ⟨⟨hR.st, hR.ln, hR.out, hR.every, hR.heard, hR.said, hR.asked, hR.at_⟩, hs.2.1, ?_, ?_, ?_⟩, hs.2.2⟩
    · show last < ((sayS _ _ _).1.ln).next; rw [hs.2.2]; exact h.l
    · show ((sayS _ _ _).1.ln).next ≤ _; rw [hs.2.2]; exact h.n
    · show ∀ y ∈ ((sayS _ _ _).1.ln).held, IM y; rw [hs.2.2]; exact h.held
  · exact ⟨trivial, h, rfl⟩
theorem beat_ok {s : Ses} {last out now : Int} (h : OI s last out) (hn : 0 ≤ now ∧ now ≤ 4611686018427387904) :
    SaidOk out now (beatS s now).2 ∧ OI (beatS s now).1 last (outOf out (beatS s now).2) ∧ (beatS s now).1.ln = s.ln := by
  unfold beatS
  split
  · have hs := say_ok h.r (m := beatM eS) (now := now) h.o (show (2 : Int) ≠ 5 by decide) (fun hle => say_right (k := 2) (a := 0) (b := 0) (t := eS) (c := false) (g := false) (by decide) ⟨h.r.out.1, hle⟩ hn (by decide) (by decide) no1_nil (fun _ => rfl) (fun _ => rfl) (fun _ _ => rfl) (fun h => absurd h (by decide)) (fun _ _ _ => rfl) (fun h => absurd h (by decide)))
    refine ⟨hs.1, ⟨sayS_R h.r _ hn, hs.2.1, ?_, ?_, ?_⟩, hs.2.2⟩
    · show last < ((sayS _ _ _).1.ln).next; rw [hs.2.2]; exact h.l
    · show ((sayS _ _ _).1.ln).next ≤ _; rw [hs.2.2]; exact h.n
    · show ∀ y ∈ ((sayS _ _ _).1.ln).held, IM y; rw [hs.2.2]; exact h.held
  · exact ⟨trivial, h, rfl⟩
theorem again_ok {s : Ses} {last out now : Int} (h : OI s last out) (hn : 0 ≤ now ∧ now ≤ 4611686018427387904) :
    SaidOk out now (againS s now).2 ∧ OI (againS s now).1 last (outOf out (againS s now).2) ∧ (againS s now).1.ln = s.ln := by
  unfold againS
  split
  · have h0 : OI { s with asked := 0 } last out := h.of ⟨h.r.st, h.r.ln, h.r.out, h.r.every, h.r.heard, h.r.said, (show (0 : Int) ≤ 0 ∧ (0 : Int) ≤ 4611686018427387904 by decide), h.r.at_⟩ rfl rfl
    exact ask_ok h0 hn
  · exact ⟨trivial, h, rfl⟩
theorem tick_ok {s : Ses} {last out now : Int} (h : OI s last out) (hn : 0 ≤ now ∧ now ≤ 4611686018427387904) : Done s (tickS s now).1 (tickS s now).2.1 [] last out now := by
  unfold tickS
  split
  · exact .same h
  split
  · exact .same h
  split
  · exact ⟨trivial, trivial, h.of ⟨(show (0 : Int) ≤ 0 ∧ (0 : Int) ≤ 2 by decide), h.r.ln, h.r.out, h.r.every, h.r.heard, h.r.said, h.r.asked, h.r.at_⟩ rfl rfl, Int.le_refl _⟩
  split
  · exact .same h
  have ha := test_ok h hn
  have hb := beat_ok ha.2.1 hn
  have hc := again_ok hb.2.1 hn
  have h1 := saidOk_app _ _ _ _ ha.1 hb.1
  have h2 := saidOk_app _ _ out now h1.1 (by rw [h1.2]; exact hc.1)
  refine ⟨h2.1, trivial, by rw [h2.2, h1.2]; exact hc.2.1, ?_⟩
  show s.ln.next ≤ (againS (beatS (testS s now).1 now).1 now).1.ln.next
  rw [hc.2.2, hb.2.2, ha.2.2]
  exact Int.le_refl _
end Go.Proofs.Ytblkdmbkkimbpaa
