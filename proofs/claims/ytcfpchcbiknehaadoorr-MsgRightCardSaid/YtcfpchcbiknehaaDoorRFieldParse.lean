/-
  Layer 2, field: the contract of Parse.
-/
import Derived.Test.YtcfpchcbiknehaaDoorRFieldPut
import Derived.Laws.BytesArg
namespace Go.Proofs.YtcfpchcbiknehaaDoorR
open Go.RowKit

theorem bytesOf_ints (l : List UInt8) : Lib.bytesOf (l.map fun c => (c.toNat : Int)) = l := by
  unfold Lib.bytesOf
  rw [List.map_map]
  conv => rhs; rw [← List.map_id l]
  exact List.map_congr_left fun c _ => by simp
theorem Row.ints {w : World} {b off : Nat} {l : List UInt8} (h : Row w (some ⟨b, off, none⟩) (bcells l)) (i : Nat) (hi : i < l.length) :
    w.cell? ⟨b, off + i, none⟩ = some (.int .u8 ((l.map fun c => (c.toNat : Int)).getD i 0)) := by
  obtain ⟨b', off', e, hc⟩ := h.byte hi
  injection e with e; injection e with e1 e2 _; subst e1; subst e2
  rw [hc]
  simp [List.getD, hi]
/-- Where the first byte c stands, or -1. -/
def idxOf (c : UInt8) (l : List UInt8) : Int := match split1 c l with | none => -1 | some p => (p.1.length : Int)
theorem bytesIndex (A : Option Addr) (n c : Nat) (l : List UInt8) (cv : UInt8) (hn : n = l.length) (hl : l ≠ []) (w : World) (h : Row w A (bcells l)) :
    Calls Tryd.prog 33 #[.slice A n c, .int .u8 cv.toNat] w fun e w' => e = .returned (.int .i64 (idxOf cv l)) ∧ w = w' := by
  subst hn
  have hi : Lib.indexByte l cv = idxOf cv l := indexByte_split cv l
  rcases h with h | ⟨b, off, rfl, hc⟩
  · exact absurd (List.map_eq_nil_iff.1 h) hl
  · refine (Tryd.bytes_IndexByte b off l.length c (l.map fun c => (c.toNat : Int)) cv.toNat w (by simp) (fun i hi => Row.ints (.inr ⟨b, off, rfl, hc⟩) i hi)).mono fun e w' ⟨he, hw⟩ => ⟨?_, hw.symm⟩
    rw [he, bytesOf_ints, ← hi]; simp
theorem strOf_ints (l : List UInt8) : strOfNums (l.map fun c => (c.toNat : Int)) = ⟨l.toArray⟩ := by
  apply ByteArray.ext
  apply Array.ext'
  rw [strOfNums_data]
  exact bytesOf_ints l
theorem conv_row {w : World} {A : Option Addr} {l : List UInt8} (h : Row w A (bcells l)) (hA : A = none → l = []) (hN : l = [] → A = none ∨ ∃ b off, A = some ⟨b, off, none⟩) (n c : Nat) (hn : n = l.length) :
    (convert 28 9 (.slice A n c)).run Tryd.prog w = .ok (.string ⟨l.toArray⟩) w := by
  subst hn
  rcases (show A = none ∨ ∃ b off, A = some ⟨b, off, none⟩ from by
    rcases h with h | ⟨b, off, e, _⟩
    · exact hN (List.map_eq_nil_iff.1 h)
    · exact .inr ⟨b, off, e⟩) with rfl | ⟨b, off, rfl⟩
  · obtain rfl := hA rfl
    exact run_convert_bytes_nil (P := Tryd.prog) w 28 5 Tryd.underlying28 Tryd.underlying5 0 c 9 Tryd.underlying9
  · have := run_convert_bytes_arg (P := Tryd.prog) w 28 5 Tryd.underlying28 Tryd.underlying5 b off l.length c (l.map fun c => (c.toNat : Int)) (by simp)
      (fun i hi => h.ints i hi) 9 Tryd.underlying9
    exact this.trans (congrArg (fun s => Result.ok (Value.string s) w) (strOf_ints l))
theorem infoF : (Tryd.prog.info? 42).map (fun i => (i.zero, i.size, i.bytes)) = some (some (.agg #[.int .i64 0, .string ⟨#[]⟩]), 2, 24) := by kernel_rfl
def ParsePost (bs : List UInt8) (w : World) (e : Ending) (w' : World) : Prop :=
  ∃ A n c, e = .returned (.tuple #[.slice A n c, .int .i64 (resE (parseF bs))]) ∧ Sl w' A n c 2 (fcells (resL (parseF bs))) ∧ Below w.heap.size w w' ∧ Fm A
def prep (acc : List Fld) (r : Except Int (List Fld)) : Except Int (List Fld) := r.map (acc ++ ·)
theorem prep_cons (acc : List Fld) (f : Fld) (r : Except Int (List Fld)) : prep acc (r.map (f :: ·)) = prep (acc ++ [f]) r := by
  cases r with
  | error e => rfl
  | ok l => simp [prep, Except.map]
theorem prep_err (acc : List Fld) (e : Int) : prep acc (.error e) = .error e := rfl
theorem prep_nil (acc : List Fld) : prep acc (.ok []) = .ok acc := by simp [prep, Except.map]
/-- What one round finds. -/
theorem parse_round {k n : Nat} {acc : List Fld} {rem : List UInt8} {R : Except Int (List Fld)} (h0 : rem ≠ []) (hk : rem.length ≤ k) (_ : acc.length = n) (h : prep acc (parseL k n rem) = R) :
    (split1 1 rem = none ∧ R = .error 2) ∨ ∃ t r, split1 1 rem = some (t, r) ∧ rem = t ++ 1 :: r ∧ ((readF t = none ∧ R = .error 3) ∨ ∃ f, readF t = some f ∧ ((n = 100 ∧ R = .error 4) ∨
      (n ≠ 100 ∧ r.length ≤ k - 1 ∧ prep (acc ++ [f]) (parseL (k - 1) (n + 1) r) = R))) := by
  cases k with
  | zero => exact absurd (List.eq_nil_of_length_eq_zero (by omega)) h0
  | succ k =>
    rw [parseL_cons h0] at h
    cases hs : split1 1 rem with
    | none => left; rw [hs] at h; exact ⟨rfl, h.symm⟩
    | some p =>
      obtain ⟨t, r⟩ := p
      right
      have ⟨e1, _⟩ := split1_some hs
      refine ⟨t, r, rfl, e1, ?_⟩
      rw [hs] at h
      simp only at h
      cases hr : readF t with
      | none => left; rw [hr] at h; exact ⟨rfl, h.symm⟩
      | some f =>
        right
        rw [hr] at h
        simp only at h
        refine ⟨f, rfl, ?_⟩
        by_cases h100 : n = 100
        · left; rw [if_pos h100] at h; exact ⟨h100, h.symm⟩
        · right
          rw [if_neg h100, prep_cons] at h
          exact ⟨h100, by rw [e1] at hk; simp at hk; omega, h⟩
def slLen : Value → Nat
  | .slice _ n _ => n
  | _ => 0

set_option maxRecDepth 100000 in
set_option maxHeartbeats 1000000 in
theorem field_Parse (A : Option Addr) (c : Nat) (bs : List UInt8) (w : World) (h : Sl w A bs.length c 1 (bcells bs)) (hl : bs.length ≤ 1000000) (hctx : FCtx w) :
    Calls Tryd.prog 17 #[.slice A bs.length c] w (ParsePost bs w) := by
  have HS := Lib.hid h; clear h
  obtain ⟨i0, hi, iz0, iz1, iz2⟩ := info_parts infoF
  have hBad : Hid (∀ x, parseF bs = .error x → ∀ e w', e = .returned (.tuple #[.slice none 0 0, .int .i64 x]) ∧ Below w.heap.size w w' → ParsePost bs w e w') := fun x hx e w' h =>
    ⟨none, 0, 0, by rw [hx]; exact h.1, by rw [hx]; exact Sl.none_ _ _, h.2, .inl rfl⟩
  by_cases hlong : 65536 < bs.length
  · have HP := Lib.hid (hBad.out 4 (by unfold parseF; rw [if_pos hlong]))
    go_enter Tryd.func17, Tryd.ntmps17
    go_wp2
    go_ret2
    exact HP.out _ _ ⟨rfl, Below.refl _ _⟩
  · have hGood : Hid (∀ acc, parseF bs = .ok acc → ∀ e w' v n, w'.ownsRow w.heap.size 42 2 v n (fcells acc) → e = .returned (.tuple #[v, .int .i64 0]) ∧ Below w.heap.size w w' → ParsePost bs w e w') := fun acc ha e w' v n ho h => by
      obtain ⟨A, c, rfl, hs, fm⟩ := Sl.of_own ho
      exact ⟨A, n, c, by rw [ha]; exact h.1, by rw [ha]; exact hs, h.2, fm⟩
    have hst : Hid (prep [] (parseL bs.length ([] : List Fld).length bs) = parseF bs) := by
      show prep [] (parseL bs.length 0 bs) = _
      unfold parseF
      rw [if_neg hlong]
      cases parseL bs.length 0 bs <;> rfl
    have hcm : c ≤ 9223372036854775807 := by have := HS.out.cap; unfold maxLen at this; omega
    go_enter Tryd.func17, Tryd.ntmps17
    go_wp2
    generalize parseF bs = R at *
    go_loopw [0, 4] (fun s v wr => ∃ (A' : Option Addr) (c' : Nat) (rem : List UInt8) (acc : List Fld) (fuel : Nat), s = .slice A' rem.length c' ∧ rem.length ≤ c' ∧ c' ≤ 9223372036854775807 ∧ rem.length ≤ 65536 ∧ Hid (Row w A' (bcells rem)) ∧
      wr.ownsRow w.heap.size 42 2 v acc.length (fcells acc) ∧ acc.length ≤ 100 ∧ rem.length ≤ fuel ∧ Hid (prep acc (parseL fuel acc.length rem) = R) ∧ Below w.heap.size w wr) (fun s _ _ => slLen s)
    case atStart => exact ⟨A, c, bs, [], bs.length, rfl, HS.out.le, hcm, by omega, HS.out.row, World.ownsRow_nil _ _ _ _, by simp, Nat.le_refl _, hst, Below.refl _ _⟩
    case round =>
      obtain ⟨A', c', rem, acc, fuel, rfl, hle, hc', hrl, hrow, hown, hacc, hfu, hR, hb⟩ := hrel
      have hz := hb.size
      by_cases h0 : rem = []
      · subst h0
        have HG := Lib.hid (hGood.out acc (by have := hR.out; rw [parseL_nil, prep_nil] at this; exact this.symm))
        go_wp2
        go_ret2
        exact HG.out _ _ _ _ hown ⟨rfl, hb⟩
      · have hpos : 0 < rem.length := List.length_pos_iff.2 h0
        have hix := bytesIndex A' rem.length c' rem 1 rfl h0 wr (hrow.out.on hb)
        rcases parse_round h0 hfu rfl hR.out with ⟨hs, hr⟩ | ⟨t, r, hs, hrem, hcase⟩
        · have HP := Lib.hid (hBad.out 2 hr)
          rw [show idxOf 1 rem = -1 by simp [idxOf, hs]] at hix
          have Hix := Lib.hid hix
          clear hix h0 hR hs hr hfu
          go_wp2_with (go_at_call 33; refine Hix.out.mono ?_; rintro e w1 ⟨rfl, rfl⟩)
          go_ret2
          exact HP.out _ _ ⟨rfl, hb⟩
        · rw [show idxOf 1 rem = (t.length : Int) by simp [idxOf, hs]] at hix
          have Hix := Lib.hid hix
          have hlen : rem.length = t.length + r.length + 1 := by rw [hrem]; simp; omega
          obtain ⟨b, off, rfl⟩ : ∃ b off, A' = some ⟨b, off, none⟩ := by
            rcases hrow.out with h | ⟨b, off, e, _⟩
            · exact absurd (List.map_eq_nil_iff.1 h) h0
            · exact ⟨b, off, e⟩
          have hrt := (hrow.out.on hb).take t.length
          rw [bcells_take, hrem, List.take_left] at hrt
          have hcv := conv_row hrt (fun h => by cases h) (fun _ => .inr ⟨b, off, rfl⟩) t.length c' rfl
          have hrr := hrow.out.cut (t.length + 1) c' (by rw [bcells_len]; exact hle)
          rw [bcells_drop, hrem, show (t ++ 1 :: r).drop (t.length + 1) = r by rw [← List.drop_drop, List.drop_left]; rfl] at hrr
          have Hrr := Lib.hid hrr
          have hrd := field_read ⟨t.toArray⟩ (by rw [size_mk]; omega) wr (hctx.on hb)
          have htl : t.length ≤ c' := by omega
          have htl1 : t.length + 1 ≤ rem.length := by omega
          have Hlen := Lib.hid hlen
          have Hcase := Lib.hid hcase
          clear hix h0 hR hs hfu hrt hrr hlen hcase hrem
          rw [show ReadPost ⟨t.toArray⟩ wr = fun e w' => e = .returned (.tuple #[.agg #[.int .i64 (readV t).tag, .string (readV t).val], .bool (readB t)]) ∧ Below wr.heap.size wr w' from rfl] at hrd
          have hv : Hid ((readF t = none → readB t = false) ∧ (∀ f, readF t = some f → readV t = f ∧ readB t = true)) := ⟨fun h => (readF_none h).2, fun f h => readF_get h⟩
          generalize readV t = f at *
          generalize readB t = rb at *
          obtain ⟨ft, fv⟩ := f
          have Hrd := Lib.hid hrd; clear hrd
          go_wp2_with (first | (go_at_call 33; refine Hix.out.mono ?_; rintro e w1 ⟨rfl, rfl⟩))
          refine Hrd.out.mono ?_
          rintro e w1 ⟨rfl, hb1⟩
          (obtain ⟨hc1, hf1⟩ := bcell hb1; have hz1 := hb1.size; (repeat (first | rw [World.size_alloc] at hz1 | rw [World.size_setCell] at hz1 | rw [World.size_drew] at hz1)); have hB1 : Below w.heap.size w w1 := Below.trans (by go_grown) (hb1.mono (by go_size)))
          rcases rb with _ | _
          · have hr : R = .error 3 := by
              rcases Hcase.out with ⟨_, h⟩ | ⟨f, h, _⟩
              · exact h
              · have := (hv.out.2 f h).2; cases this
            have HP := Lib.hid (hBad.out 3 hr)
            clear hr Hcase hv
            go_wp2
            go_ret2
            exact HP.out _ _ ⟨rfl, by go_grown⟩
          · have hc2 : (acc.length = 100 ∧ R = .error 4) ∨ (acc.length < 100 ∧ r.length ≤ fuel - 1 ∧ prep (acc ++ [⟨ft, fv⟩]) (parseL (fuel - 1) (acc.length + 1) r) = R) := by
              rcases Hcase.out with ⟨h, _⟩ | ⟨f, h, h2⟩
              · have := hv.out.1 h; cases this
              · have h3 := (hv.out.2 f h).1
                subst h3
                rcases h2 with h2 | ⟨h2, h3⟩
                · exact .inl h2
                · exact .inr ⟨by omega, h3⟩
            clear Hcase hv
            obtain ⟨A2, cap2, rfl, _⟩ := Sl.of_own hown
            rcases hc2 with ⟨h100, hr⟩ | ⟨h100, hr1, hr2⟩
            · have HP := Lib.hid (hBad.out 4 hr)
              have h100' : ((acc.length : Int) == 100) = true := by simp [h100]
              clear hr
              clear h100
              go_wp2
              go_ret2
              exact HP.out _ _ ⟨rfl, by go_grown⟩
            · have h100' : ((acc.length : Int) == 100) = false := by simp; omega
              have Hr2 := Lib.hid hr2; clear hr2
              have hown1 := ((own_on hown hb1).alloc (.cells #[.int .i64 ft, .string fv] 42)).alloc (.cells #[.int .i64 ft, .string fv] 42)
              go_wp2_with (at_builtin; refine wpList_append_own _ rfl (.tmp 31) (.tmp 33) 38 rfl w.heap.size 42 i0 (.agg #[.int .i64 0, .string ⟨#[]⟩]) 2 24 Tryd.underlying38 hi iz0 iz1 iz2 rfl (by decide) _ _ _ rfl hown1 ⟨w1.heap.size + 1, 0, none⟩ 1 1 [.int .i64 ft, .string fv] rfl rfl ?c1 ?c2 ?c3 ?c4 ?c5 ?_)
              case c1 =>
                intro j u hu
                have hbx := Box.new (w1.alloc (.cells #[.int .i64 ft, .string fv] 42)) #[.int .i64 ft, .string fv] 42
                rw [World.size_alloc] at hbx
                match j, hu with
                | 0, hu => cases hu; exact hbx.cell 0
                | 1, hu => cases hu; exact hbx.cell 1
              case c2 =>
                intro u hu
                simp at hu
                rcases hu with rfl | rfl <;> rfl
              case c3 => unfold maxLen; omega
              case c4 => omega
              case c5 => simp; omega
              intro v6 w6 hown6 hgr6 _
              have hB6 := below_own ((hB1.alloc (by omega) _).alloc (by simp; omega) _) hgr6 (by simp; omega) hown1
              have hz6 := hgr6.size
              simp only [World.size_alloc] at hz6
              have hown6' : w6.ownsRow w.heap.size 42 2 v6 (acc ++ [Fld.mk ft fv]).length (fcells (acc ++ [Fld.mk ft fv])) := own_cast hown6 (by simp [fcells, Fld.cells]) (by simp)
              have Hw6 := Hrr
              clear hown6 hown1 hgr6 hown Hrr hc1 hf1 HS hrow
              by_cases hcap : c' = t.length + 1
              · rw [if_pos hcap] at Hw6
                go_wp2
                go_roundw
                case rel => exact ⟨some ⟨b, off, none⟩, 0, r, acc ++ [⟨ft, fv⟩], fuel - 1, by rw [show r.length = rem.length - (t.length + 1) by have := Hlen.out; omega], by have := Hlen.out; omega, by omega, by have := Hlen.out; omega, Hw6, hown6', by simp; omega, hr1, by rw [List.length_append]; exact Hr2, hB6⟩
                case measure => have := Hlen.out; simp [slLen]; omega
              · rw [if_neg hcap, Option.map_some, addr_at] at Hw6
                go_wp2
                go_roundw
                case rel => exact ⟨_, c' - (t.length + 1), r, acc ++ [⟨ft, fv⟩], fuel - 1, by rw [show r.length = rem.length - (t.length + 1) by have := Hlen.out; omega], by have := Hlen.out; omega, by omega, by have := Hlen.out; omega, Hw6, hown6', by simp; omega, hr1, by rw [List.length_append]; exact Hr2, hB6⟩
                case measure => have := Hlen.out; simp [slLen]; omega
end Go.Proofs.YtcfpchcbiknehaaDoorR
