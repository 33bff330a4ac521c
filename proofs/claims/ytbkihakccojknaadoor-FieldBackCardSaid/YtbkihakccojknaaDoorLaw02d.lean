/-
  Layer 2's laws: the walk of FieldBack.
-/
import Derived.Test.YtbkihakccojknaaDoorLaw02a
import Derived.Test.YtbkihakccojknaaDoorFieldOpen
namespace Go.Proofs.YtbkihakccojknaaDoor
open Go.RowKit

theorem conv_sl {w : World} {A : Option Addr} {n c : Nat} {l : List UInt8} (h : Sl w A n c 1 (bcells l)) :
    (convert 25 9 (.slice A n c)).run Tryd.prog w = .ok (.string ⟨l.toArray⟩) w := by
  have hn : n = l.length := by have := h.len; rw [bcells_len] at this; omega
  rcases A with _ | a
  · have ⟨h1, h2⟩ := h.nil rfl
    have : l = [] := List.eq_nil_of_length_eq_zero (by omega)
    subst this
    exact conv_row h.row (fun _ => rfl) (fun _ => .inl rfl) n c hn
  · by_cases hl : l = []
    · subst hl
      have h0 : n = 0 := hn
      subst h0
      rw [run_convert_bytes_string w 25 9 5 (some a) 0 c Tryd.underlying25 Tryd.underlying5 Tryd.underlying9]
      exact run_bytesToString w a 0 c [] (run_loadCells_list w a [] (fun j v hj => by simp at hj))
    · exact conv_row h.row (fun h => by cases h) (fun h => absurd h hl) n c hn
/-- An operation whose guard is met is as one without. -/
theorem wpList_wanted {P : Program} {w : World} {ops : Array Oper} {rest : List Oper} {o : Oper} {a : Act} {Q : Exit → Act → World → Prop} (hw : Region.wanted o (yielded ops a.tmps) = true)
    (h : wpList P ops Q ({ o with guard := none } :: rest) a w) : wpList P ops Q (o :: rest) a w := by
  unfold wpList at h ⊢
  rw [if_pos hw]
  rw [if_pos (by simp [Region.wanted])] at h
  exact h
/-- 'append(own, more...)', what comes behind being any slice that reads so, nil too. -/
theorem wpList_append_sl {P : Program} {w : World} {ops : Array Oper} {rest : List Oper} {o : Oper} {a : Act} {Q : Exit → Act → World → Prop} (hgd : o.guard = none) (s x : Operand) (t : TypeId)
    (ho : o.op = .call { callee := .builtin .append, args := #[s, x], argTypes := #[t, t] })
    (base : Nat) (e : TypeId) (i : TypeInfo) (z : Value) (size bytes : Nat) (ht : P.underlying t = some (.slice e)) (hi : P.info? e = some i) (hz : i.zero = some z)
    (hsize : i.size = size) (hby : i.bytes = bytes) (hzs : z.cells.size = size) (hsz : 0 < size)
    (v : Value) (n : Nat) (xs : List Value) (hs : a.eval s = v) (hown : w.ownsRow base e size v n xs)
    (A : Option Addr) (m c : Nat) (news : List Value) (hx : a.eval x = .slice A m c) (hsl : Sl w A m c size news) (h1 : ∀ u ∈ news, u.oneCell' = true)
    (h63 : n + m ≤ maxLen) (hbytes : (n + m) * bytes ≤ 140737488355328) (hbase : base ≤ w.heap.size)
    (h : ∀ v' w', w'.ownsRow base e size v' (n + m) (xs ++ news) → w.grownBy w' v.ownBlock → wpList P ops Q rest (a.put o.dst v') w') : wpList P ops Q (o :: rest) a w := by
  rcases A with _ | ad
  · have ⟨hm, hc⟩ := hsl.nil rfl
    subst hm; subst hc
    have hnil : news = [] := List.eq_nil_of_length_eq_zero (by have := hsl.len; omega)
    subst hnil
    refine wpList_append_own_none hgd s x t ho base e i size ht hi v n xs hs hown hx ?_
    exact h v w (by simpa using hown) (World.grownBy.refl _ _)
  · refine wpList_append_own w hgd s x t ho base e i z size bytes ht hi hz hsize hby hzs hsz v n xs hs hown ad m c news hx hsl.len (fun j u hu => ?_) h1 h63 hbytes hbase (fun v' w' h2 h3 _ => h v' w' h2 h3)
    rcases hsl.row with h0 | ⟨b, off, e, hc⟩
    · subst h0; simp at hu
    · injection e with e; subst e; rw [addr_at]; exact hc j u hu
theorem fcells_one (l : List Fld) : ∀ u ∈ fcells l, u.oneCell' = true := by
  intro u hu
  simp only [fcells, List.mem_flatMap, Fld.cells] at hu
  obtain ⟨f, _, hu⟩ := hu
  simp at hu
  rcases hu with rfl | rfl <;> rfl
theorem parseL_err : ∀ {k n : Nat} {b : List UInt8} {e : Int}, parseL k n b = .error e → e ≠ 0
  | 0, _, _, _, h => by cases h
  | k + 1, n, b, e, h => by
    by_cases hb : b = []
    · subst hb; cases h
    · rw [parseL_cons hb] at h
      cases hs : split1 1 b with
      | none => rw [hs] at h; cases h; decide
      | some p =>
        obtain ⟨t, r⟩ := p
        rw [hs] at h
        simp only at h
        cases hr : readF t with
        | none => rw [hr] at h; cases h; decide
        | some f =>
          rw [hr] at h
          simp only at h
          by_cases h100 : n = 100
          · rw [if_pos h100] at h; cases h; decide
          · rw [if_neg h100] at h
            cases hp : parseL k (n + 1) r with
            | ok l => rw [hp] at h; cases h
            | error e' => rw [hp] at h; cases h; exact parseL_err hp
theorem parse_cases (b : List UInt8) (hb : b.length ≤ 65536) : (∃ e, parseF b = .error e ∧ e ≠ 0) ∨ ∃ l, parseF b = .ok l ∧ putL l = b ∧ l.all Fld.right = true ∧ l.length ≤ 100 := by
  unfold parseF
  rw [if_neg (by omega)]
  cases h : parseL b.length 0 b with
  | error e => left; exact ⟨e, rfl, parseL_err h⟩
  | ok l =>
    right
    have ⟨h1, h2, h3⟩ := parseL_ok (Nat.le_refl _) (by omega) h
    exact ⟨l, rfl, h1, h2, by omega⟩
theorem putE_cases (l : List Fld) (hl : l.length ≤ 50) : (l.all Fld.right = true ∧ putE l = 0 ∧ putV l = putL l ∧ (putL l).length ≤ 13100) ∨ (putE l = 1 ∧ putV l = []) := by
  rcases Bool.eq_false_or_eq_true (l.all Fld.right) with hr | hr
  · left
    have ⟨e1, e2⟩ := putE_ok (l := l) (by omega) hr
    exact ⟨hr, e1, e2, by have := (putL_len hr).1; omega⟩
  · right
    exact putE_arg (l := l) (by omega) hr
set_option maxRecDepth 100000 in
set_option maxHeartbeats 2000000 in
theorem walk_FieldBack (A : Option Addr) (n c : Nat) (l : List Fld) (hn : l.length = n) (A' : Option Addr) (n' c' : Nat) (l' : List Fld) (hn' : l'.length = n') (D : Option Addr) (m d : Nat) (bs : List UInt8) (hm : bs.length = m)
    (w : World) (h : Sl w A n c 2 (fcells l)) (hq : ∀ f ∈ l, FldIn f) (h' : Sl w A' n' c' 2 (fcells l')) (hq' : ∀ f ∈ l', FldIn f) (hb : Sl w D m d 1 (bcells bs)) (hctx : FCtx w) :
    Calls Tryd.prog 5 #[.slice A n c, .slice A' n' c', .slice D m d] w fun e w' => e = .returned (.bool true) ∧ Below w.heap.size w w' := by
  have hcm := h.cap
  have hnc := h.le
  have hcm' := h'.cap
  have hnc' := h'.le
  unfold maxLen at hcm hcm'
  have HR := Lib.hid h
  have HQ := Lib.hid hq
  have HR' := Lib.hid h'
  have HQ' := Lib.hid hq'
  have HB := Lib.hid hb
  have hshort : Hid (∀ W, Below w.heap.size w W → Calls Tryd.prog 8 #[.slice A n c] W fun e w' => e = .returned (.bool (shortB l)) ∧ W = w') := fun W hW => by
    have := ref_Short A c l W (HR.out.row.on hW) (by unfold maxLen; omega) (fun f hf => (HQ.out f hf).2)
    rwa [hn] at this
  have hshort' : Hid (∀ W, Below w.heap.size w W → Calls Tryd.prog 8 #[.slice A' n' c'] W fun e w' => e = .returned (.bool (shortB l')) ∧ W = w') := fun W hW => by
    have := ref_Short A' c' l' W (HR'.out.row.on hW) (by unfold maxLen; omega) (fun f hf => (HQ'.out f hf).2)
    rwa [hn'] at this
  clear h hq h' hq' hb
  by_cases h50 : 50 < n
  · clear hshort hshort'
    go_enter Tryd.func5, Tryd.ntmps5
    go_wp2_with (first | (go_at_call 7; refine (awake02 _ hctx).mono ?_; rintro e w1 ⟨rfl, hb1⟩))
    go_ret
    exact ⟨rfl, hb1⟩
  by_cases h50' : 50 < n'
  · clear hshort hshort'
    go_enter Tryd.func5, Tryd.ntmps5
    go_wp2_with (first | (go_at_call 7; refine (awake02 _ hctx).mono ?_; rintro e w1 ⟨rfl, hb1⟩))
    go_ret
    exact ⟨rfl, hb1⟩
  rcases Bool.eq_false_or_eq_true (shortB l) with hs | hs
  rcases Bool.eq_false_or_eq_true (shortB l') with hs' | hs'
  · rw [hs] at hshort
    rw [hs'] at hshort'
    simp only [shortB, Bool.and_eq_true, decide_eq_true_eq, List.all_eq_true] at hs hs'
    obtain ⟨hl, hv⟩ := hs
    obtain ⟨hl', hv'⟩ := hs'
    have hput : Hid (∀ W, Below w.heap.size w W → Calls Tryd.prog 9 #[.slice A n c] W (PutPost l W)) := fun W hW => by
      have := field_Put A c l W (HR.out.row.on hW) (fun f hf => by have := hv f hf; omega) (by omega) (hctx.on hW)
      rwa [hn] at this
    have hput' : Hid (∀ W, Below w.heap.size w W → Calls Tryd.prog 9 #[.slice A' n' c'] W (PutPost l' W)) := fun W hW => by
      have := field_Put A' c' l' W (HR'.out.row.on hW) (fun f hf => by have := hv' f hf; omega) (by omega) (hctx.on hW)
      rwa [hn'] at this
    have hpc := putE_cases l (by omega)
    have hpc' := putE_cases l' (by omega)
    have Hn := Lib.hid hn
    have Hn' := Lib.hid hn'
    have hsum : l.length + l'.length ≤ 100 := by omega
    clear hn hn' hv hv' hl hl'
    obtain ⟨ys, ey, hys, hyl⟩ : ∃ ys : List UInt8, (min (m : Int) 5000).toNat = ys.length ∧ Sl w D ys.length d 1 (bcells ys) ∧ ys.length ≤ 5000 := by
      refine ⟨bs.take 5000, by simp [hm]; omega, ?_, by simp; omega⟩
      have := HB.out.cutTo (m := (bs.take 5000).length) hm (by simp; omega)
      rwa [show bs.take (bs.take 5000).length = bs.take 5000 by rw [List.length_take, ← List.take_eq_take_min]] at this
    have hdm : d ≤ 9223372036854775807 := by have := HB.out.cap; unfold maxLen at this; omega
    have hmd := HB.out.le
    have hyc := hys.le
    have HY := Lib.hid hys
    clear hys hm HB
    unfold PutPost at hput hput'
    rcases hpc with ⟨hr, e1, e2, hlen⟩ | ⟨e1, e2⟩
    · rw [e1, e2] at hput
      rcases hpc' with ⟨hr', e1', e2', hlen'⟩ | ⟨e1', e2'⟩
      · rw [e1', e2'] at hput'
        have hrr : (l ++ l').all Fld.right = true := by rw [List.all_append, hr, hr']; rfl
        have Hrr := Lib.hid hrr
        clear hr hr' hrr e1 e2 e1' e2'
        go_enter Tryd.func5, Tryd.ntmps5
        go_wp2_with (first | (go_at_call 7; refine (awake02 _ hctx).mono ?_; rintro e w1 ⟨rfl, hb1⟩) | (go_at_call 8; (with_reducible refine (hshort.out _ hb1).mono ?_); rintro e w' ⟨rfl, rfl⟩) | (go_at_call 8; (with_reducible refine (hshort'.out _ hb1).mono ?_); rintro e w' ⟨rfl, rfl⟩))
        refine (hput.out _ hb1).mono ?_
        rintro e w2 ⟨A2, n2, c2, rfl, hs2, hb2, fm2⟩
        have hB2 : Below w.heap.size w w2 := hb1.trans (hb2.mono hb1.size)
        go_wp2_with fail
        refine (hput'.out _ hB2).mono ?_
        rintro e w3 ⟨A3, n3, c3, rfl, hs3, hb3, fm3⟩
        have hB3 : Below w.heap.size w w3 := hB2.trans (hb3.mono hB2.size)
        have hs2' := hs2.on hb3
        have k2 : n2 = (putL l).length := by have := hs2'.len; rw [bcells_len] at this; omega
        have k3 : n3 = (putL l').length := by have := hs3.len; rw [bcells_len] at this; omega
        have H2 := Lib.hid hs2'
        have H3 := Lib.hid hs3
        clear hshort hshort' hput hput' hs2 hs2' hs3 hb2 hb3 fm2 fm3 hb1 hB2
        obtain ⟨i0, hi, iz0, iz1, iz2⟩ := info_parts infoB
        obtain ⟨f0, hfi, fz0, fz1, fz2⟩ := info_parts infoF
        rw [k2, k3]
        rw [k2] at H2
        rw [k3] at H3
        clear k2 k3
        have hz3 := hB3.size
        have own0 : (w3.alloc (.cells #[] 5)).ownsRow w3.heap.size 5 1 (.slice (some ⟨w3.heap.size, 0, none⟩) 0 0) 0 [] := World.ownsRow_lit (e := 5) (size := 1) w3 #[] 0 (Nat.le_refl _) (by decide) rfl
        have hx0 := H2.out.on ((Below.refl _ _).alloc (Nat.le_refl _) (.cells #[] 5))
        go_wp2_with (at_builtin; refine wpList_append_sl rfl (.tmp 54) (.tmp 55) 25 rfl w3.heap.size 5 i0 (.int .u8 0) 1 1 Tryd.underlying25 hi iz0 iz1 iz2 rfl (by decide) _ _ _ rfl own0 A2 (putL l).length c2 (bcells (putL l)) rfl hx0 (bcells_one _) ?c3 ?c4 ?c5 ?_)
        case c3 => unfold maxLen; omega
        case c4 => omega
        case c5 => simp
        intro v4 w4 own4 hg4
        have hb4 : Below w3.heap.size w3 w4 := below_own ((Below.refl _ _).alloc (Nat.le_refl _) _) hg4 (by simp) own0
        have hy4 := H3.out.on hb4
        clear hg4 own0 hx0
        go_wp2_with (at_builtin; refine wpList_append_sl rfl (.tmp 56) (.tmp 57) 25 rfl w3.heap.size 5 i0 (.int .u8 0) 1 1 Tryd.underlying25 hi iz0 iz1 iz2 rfl (by decide) _ _ _ rfl own4 A3 (putL l').length c3 (bcells (putL l')) rfl hy4 (bcells_one _) ?d3 ?d4 ?d5 ?_)
        case d3 => unfold maxLen; omega
        case d4 => omega
        case d5 => exact hb4.size
        intro v5 w5 own5 hg5
        have hb5 : Below w3.heap.size w3 w5 := below_own hb4 hg5 hb4.size own4
        clear hg5 own4 hy4
        obtain ⟨A5, c5, rfl, hs5, _⟩ := Sl.of_own (n := (putL (l ++ l')).length) (own_cast own5 (ys := bcells (putL (l ++ l'))) (by simp [putL_app, bcells_app]) (by simp [putL_app]))
        have hB5 : Below w.heap.size w w5 := hB3.trans (hb5.mono hz3)
        have hparse := field_Parse A5 c5 (putL (l ++ l')) w5 hs5 (by rw [putL_app, List.length_append]; omega) (hctx.on hB5)
        rw [show ParsePost (putL (l ++ l')) w5 = fun e w' => ∃ A n c, e = .returned (.tuple #[.slice A n c, .int .i64 0]) ∧ Sl w' A n c 2 (fcells (l ++ l')) ∧ Below w5.heap.size w5 w' ∧ Fm A from by
          funext e w'; unfold ParsePost; rw [parseF_put Hrr.out (by rw [List.length_append]; exact hsum)]; rfl] at hparse
        go_wp2_with fail
        refine hparse.mono ?_
        rintro e w6 ⟨A6, n6, c6, rfl, hs6, hb6, _⟩
        have hB6 : Below w.heap.size w w6 := hB5.trans (hb6.mono hB5.size)
        have k6 : n6 = n + n' := by have := hs6.len; rw [fcells_len, List.length_append, Hn.out, Hn'.out] at this; omega
        subst k6
        clear hparse hs5 own5 H2 H3 hb4 hb5 hb6
        have own6 : (w6.alloc (.cells #[] 39)).ownsRow w6.heap.size 39 2 (.slice (some ⟨w6.heap.size, 0, none⟩) 0 0) 0 [] := World.ownsRow_lit (e := 39) (size := 2) w6 #[] 0 (Nat.le_refl _) (by decide) rfl
        have hx6 := HR.out.on (hB6.alloc hB6.size (.cells #[] 39))
        go_wp2_with (at_builtin; refine wpList_wanted rfl ?_; refine wpList_append_sl rfl (.tmp 66) (.tmp 67) 22 rfl w6.heap.size 39 f0 (.agg #[.int .i64 0, .string ⟨#[]⟩]) 2 24 Tryd.underlying22 hfi fz0 fz1 fz2 rfl (by decide) _ _ _ rfl own6 A n c (fcells l) rfl hx6 (fcells_one _) ?e3 ?e4 ?e5 ?_)
        case e3 => unfold maxLen; omega
        case e4 => omega
        case e5 => simp
        intro v7 w7 own7 hg7
        have hb7 : Below w6.heap.size w6 w7 := below_own ((Below.refl _ _).alloc (Nat.le_refl _) _) hg7 (by simp) own6
        have hy7 := HR'.out.on (hB6.trans (hb7.mono hB6.size))
        clear hg7 own6 hx6
        go_wp2_with (at_builtin; refine wpList_wanted rfl ?_; refine wpList_append_sl rfl (.tmp 68) (.tmp 69) 22 rfl w6.heap.size 39 f0 (.agg #[.int .i64 0, .string ⟨#[]⟩]) 2 24 Tryd.underlying22 hfi fz0 fz1 fz2 rfl (by decide) _ _ _ rfl own7 A' n' c' (fcells l') rfl hy7 (fcells_one _) ?g3 ?g4 ?g5 ?_)
        case g3 => unfold maxLen; omega
        case g4 => omega
        case g5 => exact hb7.size
        intro v8 w8 own8 hg8
        have hb8 : Below w6.heap.size w6 w8 := below_own hb7 hg8 hb7.size own7
        clear hg8 own7 hy7
        obtain ⟨A8, c8, rfl, hs8, _⟩ := Sl.of_own (n := n + n') (own_cast own8 (ys := fcells (l ++ l')) (by simp [fcells_app]) (by simp))
        have hsame := ref_Same A6 A8 c6 c8 (l ++ l') w8 (hs6.row.on hb8) hs8.row (by rw [List.length_append]; omega)
        rw [List.length_append, Hn.out, Hn'.out] at hsame
        have hB8 : Below w.heap.size w w8 := hB6.trans (hb8.mono hB6.size)
        clear hs6 hs8 own8 hb7 hb8
        go_wp2_with (go_at_call 19; refine hsame.mono ?_; rintro e w9 ⟨rfl, hb9⟩)
        have hBz : Below w.heap.size w w9 := hB8.trans (hb9.mono hB8.size)
        clear hb9 hB8 hsame hB6 hB5 hB3
        obtain ⟨wz, rfl⟩ : ∃ wz : World, wz = w9 := ⟨_, rfl⟩
        have hparse2 := field_Parse D d ys wz (HY.out.on hBz) (by omega) (hctx.on hBz)
        unfold ParsePost at hparse2
        rcases parse_cases ys (by omega) with ⟨x, hx, hx0⟩ | ⟨q, hq, hq1, hq2, hq3⟩
        · rw [hx] at hparse2
          have hx1 : (x == 0) = false := by simp [hx0]
          have hx2 : (x != 0) = true := by simp [hx0]
          clear hx hx0
          refine hparse2.mono ?_
          rintro e wa ⟨Aa, na, ca, rfl, hsa, hba, _⟩
          have hna : na = 0 := by have := hsa.len; simp [resL, fcells] at this; omega
          subst hna
          simp only [resE]
          clear hparse2 hsa
          go_wp2
          go_ret
          exact ⟨rfl, hBz.trans (hba.mono hBz.size)⟩
        · rw [hq] at hparse2
          refine hparse2.mono ?_
          rintro e wa ⟨Aa, na, ca, rfl, hsa, hba, _⟩
          have hBa : Below w.heap.size w wa := hBz.trans (hba.mono hBz.size)
          have hna : na = q.length := by have := hsa.len; rw [show resL (.ok q) = q from rfl, fcells_len] at this; omega
          subst hna
          have hput2 := field_Put Aa ca q wa hsa.row (fun f hf => by
            have hf := List.all_eq_true.1 hq2 f hf
            simp only [Fld.right, Bool.and_eq_true] at hf
            have := (rightV_iff.1 hf.2).2.1
            simp at this; omega) (by omega) (hctx.on hBa)
          unfold PutPost at hput2
          have ⟨p1, p2⟩ := putE_ok (l := q) (by omega) hq2
          rw [p1, p2, hq1] at hput2
          simp only [resE]
          clear hparse2 hsa hq hq1 hq2 p1 p2
          go_wp2_with fail
          refine hput2.mono ?_
          rintro e wb ⟨Ab, nb, cb, rfl, hsb, hbb, _⟩
          have hBb : Below w.heap.size w wb := hBa.trans (hbb.mono hBa.size)
          have k1 := conv_sl hsb
          have k2 := conv_sl (HY.out.on hBb)
          clear hput2 hsb hbb hba
          go_wp2
          go_ret
          exact ⟨rfl, hBb⟩
      · rw [e1', e2'] at hput'
        go_enter Tryd.func5, Tryd.ntmps5
        go_wp2_with (first | (go_at_call 7; refine (awake02 _ hctx).mono ?_; rintro e w1 ⟨rfl, hb1⟩) | (go_at_call 8; (with_reducible refine (hshort.out _ hb1).mono ?_); rintro e w' ⟨rfl, rfl⟩) | (go_at_call 8; (with_reducible refine (hshort'.out _ hb1).mono ?_); rintro e w' ⟨rfl, rfl⟩))
        refine (hput.out _ hb1).mono ?_
        rintro e w2 ⟨A2, n2, c2, rfl, hs2, hb2, fm2⟩
        have hB2 : Below w.heap.size w w2 := hb1.trans (hb2.mono hb1.size)
        go_wp2_with fail
        refine (hput'.out _ hB2).mono ?_
        rintro e w3 ⟨A3, n3, c3, rfl, hs3, hb3, fm3⟩
        have hBz : Below w.heap.size w w3 := hB2.trans (hb3.mono hB2.size)
        clear hshort hshort' hput hput' hs2 hs3 hb2 hb3 fm2 fm3 hb1 hB2
        go_wp2_with fail
        obtain ⟨wz, rfl⟩ : ∃ wz : World, wz = w3 := ⟨_, rfl⟩
        have hparse2 := field_Parse D d ys wz (HY.out.on hBz) (by omega) (hctx.on hBz)
        unfold ParsePost at hparse2
        rcases parse_cases ys (by omega) with ⟨x, hx, hx0⟩ | ⟨q, hq, hq1, hq2, hq3⟩
        · rw [hx] at hparse2
          have hx1 : (x == 0) = false := by simp [hx0]
          have hx2 : (x != 0) = true := by simp [hx0]
          clear hx hx0
          refine hparse2.mono ?_
          rintro e wa ⟨Aa, na, ca, rfl, hsa, hba, _⟩
          have hna : na = 0 := by have := hsa.len; simp [resL, fcells] at this; omega
          subst hna
          simp only [resE]
          clear hparse2 hsa
          go_wp2
          go_ret
          exact ⟨rfl, hBz.trans (hba.mono hBz.size)⟩
        · rw [hq] at hparse2
          refine hparse2.mono ?_
          rintro e wa ⟨Aa, na, ca, rfl, hsa, hba, _⟩
          have hBa : Below w.heap.size w wa := hBz.trans (hba.mono hBz.size)
          have hna : na = q.length := by have := hsa.len; rw [show resL (.ok q) = q from rfl, fcells_len] at this; omega
          subst hna
          have hput2 := field_Put Aa ca q wa hsa.row (fun f hf => by
            have hf := List.all_eq_true.1 hq2 f hf
            simp only [Fld.right, Bool.and_eq_true] at hf
            have := (rightV_iff.1 hf.2).2.1
            simp at this; omega) (by omega) (hctx.on hBa)
          unfold PutPost at hput2
          have ⟨p1, p2⟩ := putE_ok (l := q) (by omega) hq2
          rw [p1, p2, hq1] at hput2
          simp only [resE]
          clear hparse2 hsa hq hq1 hq2 p1 p2
          go_wp2_with fail
          refine hput2.mono ?_
          rintro e wb ⟨Ab, nb, cb, rfl, hsb, hbb, _⟩
          have hBb : Below w.heap.size w wb := hBa.trans (hbb.mono hBa.size)
          have k1 := conv_sl hsb
          have k2 := conv_sl (HY.out.on hBb)
          clear hput2 hsb hbb hba
          go_wp2
          go_ret
          exact ⟨rfl, hBb⟩
    · rw [e1, e2] at hput
      generalize putE l' = x at *
      go_enter Tryd.func5, Tryd.ntmps5
      go_wp2_with (first | (go_at_call 7; refine (awake02 _ hctx).mono ?_; rintro e w1 ⟨rfl, hb1⟩) | (go_at_call 8; (with_reducible refine (hshort.out _ hb1).mono ?_); rintro e w' ⟨rfl, rfl⟩) | (go_at_call 8; (with_reducible refine (hshort'.out _ hb1).mono ?_); rintro e w' ⟨rfl, rfl⟩))
      refine (hput.out _ hb1).mono ?_
      rintro e w2 ⟨A2, n2, c2, rfl, hs2, hb2, fm2⟩
      have hB2 : Below w.heap.size w w2 := hb1.trans (hb2.mono hb1.size)
      go_wp2_with fail
      refine (hput'.out _ hB2).mono ?_
      rintro e w3 ⟨A3, n3, c3, rfl, hs3, hb3, fm3⟩
      have hBz : Below w.heap.size w w3 := hB2.trans (hb3.mono hB2.size)
      clear hshort hshort' hput hput' hs2 hs3 hb2 hb3 fm2 fm3 hb1 hB2
      go_wp2_with fail
      obtain ⟨wz, rfl⟩ : ∃ wz : World, wz = w3 := ⟨_, rfl⟩
      have hparse2 := field_Parse D d ys wz (HY.out.on hBz) (by omega) (hctx.on hBz)
      unfold ParsePost at hparse2
      rcases parse_cases ys (by omega) with ⟨x, hx, hx0⟩ | ⟨q, hq, hq1, hq2, hq3⟩
      · rw [hx] at hparse2
        have hx1 : (x == 0) = false := by simp [hx0]
        have hx2 : (x != 0) = true := by simp [hx0]
        clear hx hx0
        refine hparse2.mono ?_
        rintro e wa ⟨Aa, na, ca, rfl, hsa, hba, _⟩
        have hna : na = 0 := by have := hsa.len; simp [resL, fcells] at this; omega
        subst hna
        simp only [resE]
        clear hparse2 hsa
        go_wp2
        go_ret
        exact ⟨rfl, hBz.trans (hba.mono hBz.size)⟩
      · rw [hq] at hparse2
        refine hparse2.mono ?_
        rintro e wa ⟨Aa, na, ca, rfl, hsa, hba, _⟩
        have hBa : Below w.heap.size w wa := hBz.trans (hba.mono hBz.size)
        have hna : na = q.length := by have := hsa.len; rw [show resL (.ok q) = q from rfl, fcells_len] at this; omega
        subst hna
        have hput2 := field_Put Aa ca q wa hsa.row (fun f hf => by
          have hf := List.all_eq_true.1 hq2 f hf
          simp only [Fld.right, Bool.and_eq_true] at hf
          have := (rightV_iff.1 hf.2).2.1
          simp at this; omega) (by omega) (hctx.on hBa)
        unfold PutPost at hput2
        have ⟨p1, p2⟩ := putE_ok (l := q) (by omega) hq2
        rw [p1, p2, hq1] at hput2
        simp only [resE]
        clear hparse2 hsa hq hq1 hq2 p1 p2
        go_wp2_with fail
        refine hput2.mono ?_
        rintro e wb ⟨Ab, nb, cb, rfl, hsb, hbb, _⟩
        have hBb : Below w.heap.size w wb := hBa.trans (hbb.mono hBa.size)
        have k1 := conv_sl hsb
        have k2 := conv_sl (HY.out.on hBb)
        clear hput2 hsb hbb hba
        go_wp2
        go_ret
        exact ⟨rfl, hBb⟩
  · rw [hs] at hshort
    rw [hs'] at hshort'
    clear hs hs'
    go_enter Tryd.func5, Tryd.ntmps5
    go_wp2_with (first | (go_at_call 7; refine (awake02 _ hctx).mono ?_; rintro e w1 ⟨rfl, hb1⟩) | (go_at_call 8; (with_reducible refine (hshort.out _ hb1).mono ?_); rintro e w' ⟨rfl, rfl⟩) | (go_at_call 8; (with_reducible refine (hshort'.out _ hb1).mono ?_); rintro e w' ⟨rfl, rfl⟩))
    go_ret
    exact ⟨rfl, hb1⟩
  · rw [hs] at hshort
    clear hs hshort'
    go_enter Tryd.func5, Tryd.ntmps5
    go_wp2_with (first | (go_at_call 7; refine (awake02 _ hctx).mono ?_; rintro e w1 ⟨rfl, hb1⟩) | (go_at_call 8; refine (hshort.out _ hb1).mono ?_; rintro e w' ⟨rfl, rfl⟩))
    go_ret
    exact ⟨rfl, hb1⟩
end Go.Proofs.YtbkihakccojknaaDoor
