/-
  Layer 6, reseq: the program's own way: Come: its contract.
-/
import Derived.Test.YtblkdmbkkimbpaaReseqIns2
namespace Go.Proofs.Ytblkdmbkkimbpaa
open Go.RowKit

theorem results_cell_tmp2 {P : Program} {fn : Func} {p u v : Tmp} {ty : TypeId} (h : fn.results = #[.cell p ty, .tmp u, .tmp v]) (tmps : Array Value) (w : World) (g : Nat) (t : TypeId) (cs : Array Value) (fr : Nat × Nat) (d : TypeDesc)
    (hp : tmps.getD p undef = .pointer (some ⟨g, 0, none⟩)) (hg : w.heap[g]? = some (.cells cs t fr)) (hu : P.underlying ty = some d) (hd : (match d with | .struct _ | .array _ _ => true | _ => false) = true) (hi : (P.info? ty).map (·.size) = some cs.size) :
    (results fn tmps).run P w = .ok (.tuple #[.agg cs, tmps.getD u undef, tmps.getD v undef]) w := by
  have hp' : tmps[p]?.getD undef = .pointer (some ⟨g, 0, none⟩) := by simpa using hp
  simp [results, h, hp', asAddr, run_loadVar_row w g t ty cs fr d hg hu hd hi]
theorem own_base {w : World} {base b' size n : Nat} {e : TypeId} {v : Value} {xs : List Value} (h : w.ownsRow base e size v n xs) (hb : b' ≤ base) : w.ownsRow b' e size v n xs := by
  rcases h with ⟨hl, h | ⟨g, cap, cur, h0, h1, h2⟩⟩
  · exact ⟨hl, .inl h⟩
  · exact ⟨hl, .inr ⟨g, cap, cur, h0, Nat.le_trans hb h1, h2⟩⟩
/-- A list of items of the call's own, and blocks that are known whole. -/
structure CJ (w : World) (bs : List (Nat × TypeId × Array Value)) (v : Value) (L : List Itm) (W : World) : Prop where
  ri : RI w bs W
  own : W.ownsRow w.heap.size 58 20 v L.length (icells L)
section
variable {w W : World} {bs : List (Nat × TypeId × Array Value)} {gx : Nat} {t : TypeId} {cs : Array Value} {v : Value} {L : List Itm}
theorem CJ.on {W' : World} (h : CJ w bs v L W) (hb : Below W.heap.size W W') : CJ w bs v L W' := ⟨h.ri.on hb, own_on h.own hb⟩
theorem CJ.swap {b b' : Nat × TypeId × Array Value} (h : CJ w (b :: b' :: bs) v L W) : CJ w (b' :: b :: bs) v L W := ⟨h.ri.swap, h.own⟩
theorem CJ.sl {A : Option Addr} {n c : Nat} (h : CJ w bs (.slice A n c) L W) (hl : L.length = n) : Sl W A n c 20 (icells L) := by
  obtain ⟨A2, c2, he, hs, _⟩ := Sl.of_own h.own
  injection he with e1 e2 e3
  subst e1; subst e3
  rw [hl] at hs
  exact hs
theorem CJ.form (h : CJ w bs v L W) : ∃ A n c, v = .slice A n c := by
  obtain ⟨A2, c2, he, _, _⟩ := Sl.of_own h.own
  exact ⟨A2, _, c2, he⟩
theorem CJ.sl' {A : Option Addr} {n c : Nat} (h : CJ w bs (.slice A n c) L W) : Sl W A n c 20 (icells L) ∧ L.length = n := by
  obtain ⟨A2, c2, he, hs, _⟩ := Sl.of_own h.own
  injection he with e1 e2 e3
  subst e1; subst e2; subst e3
  exact ⟨hs, rfl⟩
/-- Behind Insert: the item's own block is let go. -/
theorem CJ.ins {g2 g4 g3 : Nat} {c2 c4 c3 : Array Value} {W' : World} {v' : Value} {L' : List Itm} {o : Obj} (h : CJ w [(g2, 27, c2), (g4, 27, c4), (g3, 58, c3)] v L W) (ho : W'.ownsRow w.heap.size 58 20 v' L'.length (icells L')) (hg : (W.alloc o).grownBy W' v.ownBlock) : CJ w [(g2, 27, c2), (g4, 27, c4)] v' L' W' :=
  ⟨((h.ri.rot3.tail).on ((Below.refl _ _).alloc (Nat.le_refl _) o)).grown hg (own_on h.own ((Below.refl _ _).alloc (Nat.le_refl _) o)) (fun b hb => by simp only [List.mem_cons, List.not_mem_nil, or_false] at hb; rcases hb with rfl | rfl <;> exact (show (27 : Nat) ≠ 58 by decide)), ho⟩
theorem cj_put {ops : Array Oper} {rest : List Oper} {op : Oper} {a : Act} {Q : Exit → Act → World → Prop} (hgd : op.guard = none) (ty : TypeId) (x y : Operand) (ho : op.op = .store ty x y)
    (vs : Array Value) (hx : a.eval x = .pointer (some ⟨gx, 0, none⟩)) (hy : a.eval y = .agg vs) (h : CJ w ((gx, t, cs) :: bs) v L W) (ht : t ≠ 58) (hsz : cs.size = vs.size)
    (hi : (Try.prog.info? ty).map (·.size) = some vs.size) (h1 : vs.all (·.oneCell') = true)
    (hk : ∀ w', CJ w ((gx, t, vs) :: bs) v L w' → wpList Try.prog ops Q rest (a.put op.dst undef) w') : wpList Try.prog ops Q (op :: rest) a W :=
  ri_put hgd ty x y ho vs hx hy h.ri hsz hi h1 fun w' h' hf => hk w' ⟨h', own_far h.own h.ri.bx ht hf⟩
theorem cj_put1 {ops : Array Oper} {rest : List Oper} {op : Oper} {a : Act} {Q : Exit → Act → World → Prop} (hgd : op.guard = none) (ty : TypeId) (x y : Operand) (ho : op.op = .store ty x y)
    (i : Nat) (u : Value) (hx : a.eval x = .pointer (some ⟨gx, i, none⟩)) (hy : a.eval y = u) (hone : u.oneCell' = true) (h : CJ w ((gx, t, cs) :: bs) v L W) (ht : t ≠ 58) (hi : i < cs.size)
    (hsz : (Try.prog.info? ty).map (·.size) = some 1) {cs' : Array Value} (hcs : cs.setIfInBounds i u = cs')
    (hk : ∀ w', CJ w ((gx, t, cs') :: bs) v L w' → wpList Try.prog ops Q rest (a.put op.dst undef) w') : wpList Try.prog ops Q (op :: rest) a W :=
  ri_put1 hgd ty x y ho i u hx hy hone h.ri hi hsz fun w' h' hf => hk w' ⟨hcs ▸ h', own_far h.own h.ri.bx ht hf⟩
end
/-! ### What place finds -/
theorem rising_all (l : List Itm) : ∀ lo : Int, risingB lo l = true → ∀ z ∈ l, lo < z.fr := by
  induction l with
  | nil => intro lo _ z hz; cases hz
  | cons y r ih =>
    intro lo h z hz
    rw [risingB_cons] at h
    rcases List.mem_cons.1 hz with hz | hz
    · rw [hz]; exact h.1
    · exact Int.lt_trans h.1 (ih y.fr h.2 z hz)
theorem place_has : ∀ (l : List Itm) (lo f : Int), risingB lo l = true → (placeN f l).2 = hasB f l
  | [], _, _, _ => rfl
  | y :: r, lo, f, h => by
    rw [risingB_cons] at h
    unfold placeN
    rw [show hasB f (y :: r) = (decide (y.fr = f) || hasB f r) from rfl]
    by_cases h1 : f ≤ y.fr
    · rw [if_pos h1]
      show decide (y.fr = f) = _
      by_cases h2 : y.fr = f
      · rw [decide_eq_true h2]; rfl
      · rw [decide_eq_false h2, Bool.false_or]
        refine (Bool.eq_false_iff.2 fun hb => ?_).symm
        unfold hasB at hb
        obtain ⟨z, hz, he⟩ := List.any_eq_true.1 hb
        rw [decide_eq_true_eq] at he
        have := rising_all r y.fr h.2 z hz
        omega
    · rw [if_neg h1, decide_eq_false (by omega), Bool.false_or]
      exact place_has r y.fr f h.2
theorem place_ins : ∀ (l : List Itm) (x : Itm), hasB x.fr l = false → l.take (placeN x.fr l).1 ++ x :: l.drop (placeN x.fr l).1 = putIn x l
  | [], _, _ => rfl
  | y :: r, x, hb => by
    rw [show hasB x.fr (y :: r) = (decide (y.fr = x.fr) || hasB x.fr r) from rfl, Bool.or_eq_false_iff, decide_eq_false_iff_not] at hb
    unfold placeN putIn
    by_cases h1 : x.fr ≤ y.fr
    · rw [if_pos h1, if_pos (by have := hb.1; omega)]
      rfl
    · rw [if_neg h1, if_neg (by omega)]
      show y :: (r.take _ ++ x :: r.drop _) = _
      rw [place_ins r x hb.2]
theorem Sl.far {w w' : World} {A : Option Addr} {n c g : Nat} {t : TypeId} {cs : Array Value} {l : List Itm} (h : Sl w A n c 20 (icells l)) (hb : Box w g t cs) (hs : cs.size ≤ 2) (hw : ∀ k, k ≠ g → w'.heap[k]? = w.heap[k]?) : Sl w' A n c 20 (icells l) := by
  refine ⟨h.len, h.le, h.cap, h.nil, ?_⟩
  cases l with
  | nil => exact .inl rfl
  | cons y r =>
    rcases h.row with h0 | ⟨b, off, rfl, hc⟩
    · exact absurd h0 (by show y.cells ++ icells r ≠ []; unfold Itm.cells; simp)
    · have hne : b ≠ g := fun e => by
        subst e
        have h2 := hc 2 (.int .i64 y.m.kind) rfl
        rw [hb.cell, Array.getElem?_eq_none (by omega)] at h2
        cases h2
      refine .inr ⟨b, off, rfl, fun i u hu => ?_⟩
      have := hc i u hu
      unfold World.cell? at this ⊢
      rw [show w'.heap[b]? = w.heap[b]? from hw b hne]
      exact this
theorem right_len {k : Int} {l : List Itm} (h : Ln.rightB ⟨k, l⟩ = true) : l.length ≤ 64 ∧ risingB k l = true := ⟨(rightB_iff.1 h).2.1, (rightB_iff.1 h).2.2.2⟩
/-- What Come answers. -/
def ComePost (r : Ln × List Itm × Int) (w : World) (e : Ending) (w' : World) : Prop :=
  ∃ A n c A' n' c', Fr w.heap.size A ∧ e = .returned (.tuple #[.agg #[.int .i64 r.1.next, .slice A n c], .slice A' n' c', .int .i64 r.2.2]) ∧ r.1.held.length = n ∧ r.2.1.length = n' ∧ Sl w' A n c 20 (icells r.1.held) ∧ Sl w' A' n' c' 20 (icells r.2.1) ∧ Below w.heap.size w w'
set_option maxRecDepth 100000 in
set_option maxHeartbeats 1000000 in
theorem own_Come (k0 : Int) (A : Option Addr) (n c : Nat) (l : List Itm) (hl : l.length = n) (x : Itm) (W : World) (h : Sl W A n c 20 (icells l)) (hn : n ≤ 100000) :
    Calls Try.prog 31 #[.agg #[.int .i64 k0, .slice A n c], .agg x.arr] W (ComePost (comeR ⟨k0, l⟩ x) W) := by
  have HI := Lib.hid ((((RI.start W).add 27 #[.int .i64 k0, .slice A n c]).addAt 58 x.arr (W.heap.size + 1) (by simp)).addAt 27 #[.int .i64 0, .slice none 0 0] (W.heap.size + 1 + 1) (by simp)).rot3
  have hh1 := (HI.out.cell 1).trans (show _ = some (.slice A n c) from rfl)
  have HCl := Lib.hid (own_Clone A n c l hl _ (h.on HI.out.below) hn)
  have HRi := Lib.hid (fun (A1 : Option Addr) (c1 : Nat) (V : World) (hs : Sl V A1 n c1 20 (icells l)) => own_Right k0 A1 n c1 l hl V hs)
  have HMa := Lib.hid (fun V : World => own_May x V)
  have HFin := Lib.hid (show ∀ (k : Int), comeR ⟨k0, l⟩ x = (⟨k0, l⟩, [], k) → ∀ (A1 : Option Addr) (c1 : Nat) w', CJ W [(W.heap.size + 1 + 1, 27, #[.int .i64 k0, .slice A1 n c1]), (W.heap.size, 27, #[.int .i64 k0, .slice A1 n c1]), (W.heap.size + 1, 58, x.arr)] (.slice A1 n c1) l w' → ∀ v, v = .tuple #[.agg #[.int .i64 k0, .slice A1 n c1], .slice none 0 0, .int .i64 k] → ComePost (comeR ⟨k0, l⟩ x) W (.returned v) w' from fun k hk A1 c1 w' hC v hv => by
    subst hv
    rw [hk]
    obtain ⟨A2, c2, he, hs, _⟩ := Sl.of_own hC.own
    injection he with e1 e2 e3
    subst e1; subst e3
    rw [hl] at hs
    exact ⟨A1, n, c1, none, 0, 0, Fr.own hC.own, rfl, hl, rfl, hs, Sl.none_ _ _, hC.ri.below⟩)
  have hxs : x.arr.size = 20 := rfl
  have HL := Lib.hid hl
  have HSl := Lib.hid h
  clear hl h
  generalize hR : comeR ⟨k0, l⟩ x = r at *
  have HRr := Lib.hid hR
  clear hR
  go_enter Try.func31, Try.ntmps31
  go_upto_region 1 with (fail)
  go_wp2_with fail
  refine HCl.out.mono ?_
  rintro e w1 ⟨v1, rfl, hown, hb1⟩
  obtain ⟨A1, c1, rfl, hs1, _⟩ := Sl.of_own hown
  have HC := Lib.hid (⟨HI.out.on hb1, own_cast (own_base hown HI.out.below.size) rfl HL.out.symm⟩ : CJ W _ (.slice A1 n c1) l w1)
  clear hown hs1 hb1 HI hh1 HCl
  go_upto_region 2 with (first | (refine cj_put1 rfl 25 (.tmp 14) (.tmp 13) rfl 1 (.slice A1 n c1) rfl rfl rfl HC.out (by decide) (by show 1 < 2; decide) (by kernel_rfl) (cs' := #[.int .i64 k0, .slice A1 n c1]) rfl ?_; intro w2 hC2; have HC := Lib.hid hC2; clear hC2))
  generalize hrb : Ln.rightB ⟨k0, l⟩ = rb at *
  generalize hmb : x.mayB = mb at *
  have Hrb := Lib.hid hrb
  have Hmb := Lib.hid hmb
  clear hrb hmb
  generalize hfx : x.fr = fx at *
  have Hfx := Lib.hid hfx
  generalize htx : x.till = tx at *
  have Htx := Lib.hid htx
  clear hfx htx
  rcases rb with _ | _
  · go_upto_region 3 with (first | (refine wpList_load_row rfl 27 (.tmp 2) rfl _ rfl 27 _ (0, 0) _ HC.out.ri.bx Try.underlying27 rfl infoL ?_) | (go_at_call 24; refine (HRi.out A1 c1 _ (HC.out.sl HL.out)).mono ?_; rintro e w3 ⟨rfl, hb3⟩; have HC := Lib.hid (HC.out.on hb3); clear hb3))
    go_wp2_with (first | (refine wpList_load_row rfl 27 (.tmp 2) rfl _ rfl 27 _ (0, 0) _ HC.out.ri.bx Try.underlying27 rfl infoL ?_) | (refine cj_put rfl 27 (.tmp 4) (.tmp 24) rfl #[.int .i64 k0, .slice A1 n c1] rfl rfl HC.out.swap (by decide) rfl infoL (by simp [Value.oneCell']) ?_; intro w9 hC9; have HD := Lib.hid hC9; clear hC9))
    try simp only [Exit.inBlock, Exit.then]
    refine bodyPost_ret (results_cell_tmp2 Try.results31 _ _ _ _ _ (0, 0) _ rfl HD.out.ri.bx Try.underlying27 rfl infoL) rfl ?_
    exact HFin.out 0 (by rw [← HRr.out]; unfold comeR; rw [if_pos (by rw [Hrb.out]; rfl)]) A1 c1 _ HD.out _ rfl
  · rcases mb with _ | _
    · go_upto_region 3 with (first | (refine wpList_load_row rfl 27 (.tmp 2) rfl _ rfl 27 _ (0, 0) _ HC.out.ri.bx Try.underlying27 rfl infoL ?_) | (go_at_call 24; refine (HRi.out A1 c1 _ (HC.out.sl HL.out)).mono ?_; rintro e w3 ⟨rfl, hb3⟩; have HC := Lib.hid (HC.out.on hb3); clear hb3) | (go_guarded; refine box_load HC.out.ri.rot3.bx 58 (.tmp 3) rfl rfl _ Try.underlying58 rfl infoI ?_; try simp only [Act.put, List.setIfInBounds_toArray, List.set_cons_zero, List.set_cons_succ]) | (go_at_call 33; refine (HMa.out _).mono ?_; rintro e w4 ⟨rfl, hb4⟩; have HC := Lib.hid (HC.out.on hb4); clear hb4))
      go_wp2_with (first | (refine wpList_load_row rfl 27 (.tmp 2) rfl _ rfl 27 _ (0, 0) _ HC.out.ri.bx Try.underlying27 rfl infoL ?_) | (refine cj_put rfl 27 (.tmp 4) (.tmp 24) rfl #[.int .i64 k0, .slice A1 n c1] rfl rfl HC.out.swap (by decide) rfl infoL (by simp [Value.oneCell']) ?_; intro w9 hC9; have HD := Lib.hid hC9; clear hC9))
      try simp only [Exit.inBlock, Exit.then]
      refine bodyPost_ret (results_cell_tmp2 Try.results31 _ _ _ _ _ (0, 0) _ rfl HD.out.ri.bx Try.underlying27 rfl infoL) rfl ?_
      exact HFin.out 0 (by rw [← HRr.out]; unfold comeR; rw [if_pos (by rw [Hrb.out, Hmb.out]; rfl)]) A1 c1 _ HD.out _ rfl
    · go_upto_region 4 with (first | (refine wpList_load_row rfl 27 (.tmp 2) rfl _ rfl 27 _ (0, 0) _ HC.out.ri.bx Try.underlying27 rfl infoL ?_) | (go_at_call 24; refine (HRi.out A1 c1 _ (HC.out.sl HL.out)).mono ?_; rintro e w3 ⟨rfl, hb3⟩; have HC := Lib.hid (HC.out.on hb3); clear hb3) | (go_guarded; refine box_load HC.out.ri.rot3.bx 58 (.tmp 3) rfl rfl _ Try.underlying58 rfl infoI ?_; try simp only [Act.put, List.setIfInBounds_toArray, List.set_cons_zero, List.set_cons_succ]) | (go_at_call 33; refine (HMa.out _).mono ?_; rintro e w4 ⟨rfl, hb4⟩; have HC := Lib.hid (HC.out.on hb4); clear hb4))
      have hf0 := (HC.out.ri.cell 0).trans (show _ = some (.int .i64 k0) from rfl)
      have hf1 := (HC.out.ri.cell 1).trans (show _ = some (.slice A1 n c1) from rfl)
      have hx0 := (HC.out.ri.rot3.cell 0).trans (show x.arr[0]? = some (.int .i64 fx) from congrArg (fun z => some (Value.int .i64 z)) Hfx.out)
      have hx1 := (HC.out.ri.rot3.cell 1).trans (show x.arr[1]? = some (.int .i64 tx) from congrArg (fun z => some (Value.int .i64 z)) Htx.out)
      have HN0 := Lib.hid (show ¬ (Ln.rightB ⟨k0, l⟩ && x.mayB) = false by rw [Hrb.out, Hmb.out]; decide)
      by_cases c1_ : tx ≤ k0
      · go_upto_region 5 with (fail)
        go_wp2_with (first | (refine wpList_load_row rfl 27 (.tmp 2) rfl _ rfl 27 _ (0, 0) _ HC.out.ri.bx Try.underlying27 rfl infoL ?_) | (refine cj_put rfl 27 (.tmp 4) (.tmp 31) rfl #[.int .i64 k0, .slice A1 n c1] rfl rfl HC.out.swap (by decide) rfl infoL (by simp [Value.oneCell']) ?_; intro w9 hC9; have HD := Lib.hid hC9; clear hC9))
        try simp only [Exit.inBlock, Exit.then]
        refine bodyPost_ret (results_cell_tmp2 Try.results31 _ _ _ _ _ (0, 0) _ rfl HD.out.ri.bx Try.underlying27 rfl infoL) rfl ?_
        exact HFin.out 3 (by rw [← HRr.out]; unfold comeR; rw [if_neg HN0.out, if_pos (by rw [Htx.out]; exact c1_)]) A1 c1 _ HD.out _ rfl
      by_cases c2_ : fx ≤ k0
      · have HT := Lib.hid (show r = (⟨(drain x.till l).2.1, (drain x.till l).2.2⟩, x :: (drain x.till l).1, 1) by rw [← HRr.out]; unfold comeR; rw [if_neg HN0.out, if_neg (show ¬ x.till ≤ k0 by rw [Htx.out]; omega), if_pos (show x.fr ≤ k0 by rw [Hfx.out]; omega)])
        have HTk := Lib.hid (fun (V : World) (hs : Sl V A1 n c1 20 (icells l)) => own_take k0 A1 n c1 l HL.out x V hs (by have := (right_len Hrb.out).1; rw [HL.out] at this; exact this))
        generalize (drain x.till l).2.1 = nx at *
        generalize (drain x.till l).2.2 = left at *
        generalize (drain x.till l).1 = told at *
        go_upto_region 7 with (fail)
        go_wp2_with (first | (refine wpList_load_row rfl 27 (.tmp 2) rfl _ rfl 27 _ (0, 0) _ HC.out.ri.bx Try.underlying27 rfl infoL ?_) | (refine wpList_load_row rfl 58 (.tmp 3) rfl _ rfl 58 x.arr (0, 0) _ HC.out.ri.rot3.bx Try.underlying58 rfl infoI ?_) | (go_at_call 37; refine (HTk.out _ (HC.out.sl HL.out)).mono ?_; rintro e w5 ⟨A2, n2, c2, A3, n3, c3, hfr, rfl, hl2, hl3, hs2, hs3, hb5⟩; have HFr := Lib.hid (hfr _ (Fr.own HC.out.own)); clear hfr; have HK := Lib.hid (HC.out.ri.on hb5); have HS2 := Lib.hid hs2; have HS3 := Lib.hid hs3; clear hb5 hs2 hs3; have hB6 := (Below.refl w5.heap.size w5).alloc (Nat.le_refl _) (.cells #[.int .i64 0, .slice none 0 0] 27)) | (refine ri_put rfl 27 (.tmp 7) (.tmp 42) rfl #[.int .i64 nx, .slice A2 n2 c2] rfl rfl (HK.out.add 27 #[.int .i64 0, .slice none 0 0]) rfl infoL (by simp [Value.oneCell']) ?_; intro w6 hK6 hf6; have HS2 := Lib.hid ((HS2.out.on hB6).far (HK.out.add 27 #[.int .i64 0, .slice none 0 0]).bx (by decide) hf6); have HS3 := Lib.hid ((HS3.out.on hB6).far (HK.out.add 27 #[.int .i64 0, .slice none 0 0]).bx (by decide) hf6); have HK := Lib.hid hK6; clear hK6 hf6 hB6) | (refine wpList_load_row rfl 27 (.tmp 7) rfl _ rfl 27 _ (0, 0) _ HK.out.bx Try.underlying27 rfl infoL ?_) | (refine ri_put rfl 27 (.tmp 4) (.tmp 44) rfl #[.int .i64 nx, .slice A2 n2 c2] rfl rfl HK.out.rot3 rfl infoL (by simp [Value.oneCell']) ?_; intro w7 hK7 hf7; have HS2 := Lib.hid (HS2.out.far HK.out.rot3.bx (by decide) hf7); have HS3 := Lib.hid (HS3.out.far HK.out.rot3.bx (by decide) hf7); have HD := Lib.hid hK7; clear hK7 hf7))
        try simp only [Exit.inBlock, Exit.then]
        refine bodyPost_ret (results_cell_tmp2 Try.results31 _ _ _ _ _ (0, 0) _ rfl HD.out.bx Try.underlying27 rfl infoL) rfl ?_
        rw [HT.out]
        exact ⟨A2, n2, c2, A3, n3, c3, HFr.out, rfl, hl2, hl3, HS2.out, HS3.out, HD.out.below⟩
      have HPl := Lib.hid (fun (V : World) (hs : Sl V A1 n c1 20 (icells l)) => own_place fx A1 n c1 l HL.out V hs)
      have HHas := Lib.hid (place_has l k0 fx (right_len Hrb.out).2)
      have HPs := Lib.hid (fun (hb : hasB x.fr l = false) => place_ins l x hb)
      have HPle := Lib.hid (placeN_le fx l)
      rw [Hfx.out] at HPs
      generalize hpl : placeN fx l = pl at *
      obtain ⟨p, pb⟩ := pl
      have Hpl := Lib.hid hpl
      clear hpl
      dsimp only at HPl HPle HHas HPs
      rcases pb with _ | _
      · by_cases c4_ : n = 64
        · have hn4 : ((n : Int) == 64) = true := by simp [c4_]
          have HN := Lib.hid c4_
          clear c4_
          go_upto_region 10 with (first | (go_at_call 38; refine (HPl.out _ (HC.out.sl HL.out)).mono ?_; rintro e w5 ⟨rfl, hb5⟩; have HC := Lib.hid (HC.out.on hb5); clear hb5; have hf1 := (HC.out.ri.cell 1).trans (show _ = some (.slice A1 n c1) from rfl)))
          go_upto_region 13 with (fail)
          go_wp2_with (first | (refine wpList_load_row rfl 27 (.tmp 2) rfl _ rfl 27 _ (0, 0) _ HC.out.ri.bx Try.underlying27 rfl infoL ?_) | (refine cj_put rfl 27 (.tmp 4) (.tmp 62) rfl #[.int .i64 k0, .slice A1 n c1] rfl rfl HC.out.swap (by decide) rfl infoL (by simp [Value.oneCell']) ?_; intro w9 hC9; have HD := Lib.hid hC9; clear hC9))
          try simp only [Exit.inBlock, Exit.then]
          refine bodyPost_ret (results_cell_tmp2 Try.results31 _ _ _ _ _ (0, 0) _ rfl HD.out.ri.bx Try.underlying27 rfl infoL) rfl ?_
          exact HFin.out 4 (by rw [← HRr.out]; unfold comeR; rw [if_neg HN0.out, if_neg (show ¬ x.till ≤ k0 by rw [Htx.out]; omega), if_neg (show ¬ x.fr ≤ k0 by rw [Hfx.out]; omega), if_neg (by rw [Hfx.out, ← HHas.out]; decide), if_pos (by rw [HL.out, HN.out]; exact Nat.le_refl _)]) A1 c1 _ HD.out _ rfl
        · have hn4 : ((n : Int) == 64) = false := by simp; omega
          have HN := Lib.hid c4_
          clear c4_
          have hbd := build_arr x
          have HIn := Lib.hid (fun (V : World) (hC : CJ W [(W.heap.size, 27, #[.int .i64 k0, .slice A1 n c1]), (W.heap.size + 1 + 1, 27, #[.int .i64 0, .slice none 0 0]), (W.heap.size + 1, 58, x.arr)] (.slice A1 n c1) l V) => own_Insert W.heap.size V.heap.size p l x (.slice A1 n c1) (V.alloc (.cells x.arr 58)) (by rw [World.size_alloc]; exact Nat.le_succ_of_le hC.ri.below.size) (own_on hC.own ((Below.refl _ _).alloc (Nat.le_refl _) _)) HPle.out (right_len Hrb.out).1 (Box.new V x.arr _) (fun he => by have := hC.own.lt _ he; omega))
          have HFi := Lib.hid (show r = (⟨k0, l.take p ++ x :: l.drop p⟩, [], 2) by rw [← HRr.out, HPs.out HHas.out.symm]; unfold comeR; rw [if_neg HN0.out, if_neg (show ¬ x.till ≤ k0 by rw [Htx.out]; omega), if_neg (show ¬ x.fr ≤ k0 by rw [Hfx.out]; omega), if_neg (by rw [Hfx.out, ← HHas.out]; decide), if_neg (by show ¬ 64 ≤ l.length; rw [HL.out]; have := (right_len Hrb.out).1; rw [HL.out] at this; have := HN.out; omega)])
          generalize l.take p ++ x :: l.drop p = l7 at *
          go_upto_region 10 with (first | (go_at_call 38; refine (HPl.out _ (HC.out.sl HL.out)).mono ?_; rintro e w5 ⟨rfl, hb5⟩; have HC := Lib.hid (HC.out.on hb5); clear hb5; have hf1 := (HC.out.ri.cell 1).trans (show _ = some (.slice A1 n c1) from rfl)))
          go_upto_region 14 with (fail)
          go_wp2_with (first | (refine wpList_load_row rfl 58 (.tmp 3) rfl _ rfl 58 x.arr (0, 0) _ HC.out.ri.rot3.bx Try.underlying58 rfl infoI ?_) | (go_at_call 39; refine (HIn.out _ HC.out).mono ?_; rintro e w7 ⟨v7, rfl, ho7, hg7⟩; have HC := Lib.hid (CJ.ins HC.out ho7 hg7); clear ho7 hg7; obtain ⟨A7, n7, c7, rfl⟩ := CJ.form HC.out) | (refine cj_put1 rfl 25 (.tmp 69) (.tmp 68) rfl 1 (.slice A7 n7 c7) rfl rfl rfl HC.out (by decide) (by show 1 < 2; decide) (by kernel_rfl) (cs' := #[.int .i64 k0, .slice A7 n7 c7]) rfl ?_; intro w8 hC8; have HC := Lib.hid hC8; clear hC8) | (refine wpList_load_row rfl 27 (.tmp 2) rfl _ rfl 27 _ (0, 0) _ HC.out.ri.bx Try.underlying27 rfl infoL ?_) | (refine cj_put rfl 27 (.tmp 4) (.tmp 70) rfl #[.int .i64 k0, .slice A7 n7 c7] rfl rfl HC.out.swap (by decide) rfl infoL (by simp [Value.oneCell']) ?_; intro w9 hC9; have HD := Lib.hid hC9; clear hC9))
          try simp only [Exit.inBlock, Exit.then]
          refine bodyPost_ret (results_cell_tmp2 Try.results31 _ _ _ _ _ (0, 0) _ rfl HD.out.ri.bx Try.underlying27 rfl infoL) rfl ?_
          rw [HFi.out]
          have hs7 := CJ.sl' HD.out
          exact ⟨A7, n7, c7, none, 0, 0, Fr.own HD.out.own, rfl, hs7.2, rfl, hs7.1, Sl.none_ _ _, HD.out.ri.below⟩
      · go_upto_region 10 with (first | (go_at_call 38; refine (HPl.out _ (HC.out.sl HL.out)).mono ?_; rintro e w5 ⟨rfl, hb5⟩; have HC := Lib.hid (HC.out.on hb5); clear hb5; have hf1 := (HC.out.ri.cell 1).trans (show _ = some (.slice A1 n c1) from rfl)))
        go_upto_region 11 with (fail)
        go_wp2_with (first | (refine wpList_load_row rfl 27 (.tmp 2) rfl _ rfl 27 _ (0, 0) _ HC.out.ri.bx Try.underlying27 rfl infoL ?_) | (refine cj_put rfl 27 (.tmp 4) (.tmp 56) rfl #[.int .i64 k0, .slice A1 n c1] rfl rfl HC.out.swap (by decide) rfl infoL (by simp [Value.oneCell']) ?_; intro w9 hC9; have HD := Lib.hid hC9; clear hC9))
        try simp only [Exit.inBlock, Exit.then]
        refine bodyPost_ret (results_cell_tmp2 Try.results31 _ _ _ _ _ (0, 0) _ rfl HD.out.ri.bx Try.underlying27 rfl infoL) rfl ?_
        exact HFin.out 3 (by rw [← HRr.out]; unfold comeR; rw [if_neg HN0.out, if_neg (show ¬ x.till ≤ k0 by rw [Htx.out]; omega), if_neg (show ¬ x.fr ≤ k0 by rw [Hfx.out]; omega), if_pos (by rw [Hfx.out, ← HHas.out])]) A1 c1 _ HD.out _ rfl
end Go.Proofs.Ytblkdmbkkimbpaa
