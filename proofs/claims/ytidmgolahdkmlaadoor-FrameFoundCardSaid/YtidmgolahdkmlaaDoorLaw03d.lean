/-
  Layer 3's laws: the walk of FrameFound.
-/
import Derived.Test.YtidmgolahdkmlaaDoorLaw03a
import Derived.Test.YtidmgolahdkmlaaDoorFieldOpen
namespace Go.Proofs.YtidmgolahdkmlaaDoor
open Go.RowKit

theorem frmE_cases (x : List UInt8) (h : x.length ≤ 1000) : (frmR x = true ∧ frmE x = 0 ∧ frmV x = frmB x) ∨ (frmE x = 1 ∧ frmV x = []) := by
  rcases Bool.eq_false_or_eq_true (frmR x) with hr | hr
  · left; have := frmE_ok hr; exact ⟨hr, this.1, this.2⟩
  · right; exact frmE_arg (by omega) hr
set_option maxRecDepth 100000 in
set_option maxHeartbeats 2000000 in
theorem walk_FrameFound (A : Option Addr) (n c : Nat) (l : List UInt8) (hn : l.length = n) (A' : Option Addr) (n' c' : Nat) (x : List UInt8) (hn' : x.length = n') (D : Option Addr) (m d : Nat) (y : List UInt8) (hm : y.length = m)
    (a : Int) (a0 : 0 ≤ a) (a1 : a ≤ 65535) (w : World) (h : Sl w A n c 1 (bcells l)) (h' : Sl w A' n' c' 1 (bcells x)) (hy : Sl w D m d 1 (bcells y)) (hctx : FCtx w) :
    Calls Tryd.prog 5 #[.slice A n c, .slice A' n' c', .slice D m d, .int .u16 a] w fun e w' => e = .returned (.bool true) ∧ Below w.heap.size w w' := by
  have hcm := h.cap
  have hnc := h.le
  have hcm' := h'.cap
  have hnc' := h'.le
  have hcd := hy.cap
  have hmd := hy.le
  unfold maxLen at hcm hcm' hcd
  have HL := Lib.hid h
  have HX := Lib.hid h'
  have HY := Lib.hid hy
  clear h h' hy
  by_cases hbig : 1000 < n ∨ 1000 < n' ∨ 1000 < m
  · rcases (show 1000 < n ∨ (¬ 1000 < n ∧ 1000 < n') ∨ (¬ 1000 < n ∧ ¬ 1000 < n' ∧ 1000 < m) by omega) with h | ⟨h1, h⟩ | ⟨h1, h2, h⟩
    all_goals
      clear hbig
      go_enter Tryd.func5, Tryd.ntmps5
      go_wp2_with fail
      refine (awake03 w hctx).mono ?_
      rintro e w1 ⟨rfl, hb1⟩
      go_wp2
      go_ret
      exact ⟨rfl, hb1⟩
  · have hn1 : ¬ 1000 < n := by omega
    have hn2 : ¬ 1000 < n' := by omega
    have hn3 : ¬ 1000 < m := by omega
    clear hbig
    go_enter Tryd.func5, Tryd.ntmps5
    go_wp2_with fail
    refine (awake03 w hctx).mono ?_
    rintro e w1 ⟨rfl, hb1⟩
    have hp := frame_Put A' n' c' x w1 (HX.out.on hb1) hn' (by omega) (hctx.on hb1)
    rw [show FPutPost x w1 = fun e w' => ∃ v, e = .returned (.tuple #[v, .int .i64 (frmE x)]) ∧ Moz w' w1.heap.size v (frmV x).length (bcells (frmV x)) ∧ Below w1.heap.size w1 w' from rfl] at hp
    rcases frmE_cases x (by omega) with ⟨hR, hE, hV⟩ | ⟨hE, hV⟩
    · rw [hE, hV] at hp
      have hfl := frmB_len x
      have hd4 := decDigits_le4 (frmR_len hR).2
      have Hp := Lib.hid hp
      have N1 := Lib.hid (nxt_found hR y)
      have N2 := Lib.hid (fun h8 h0 => nxt_junk (x := x) (j := l) h8 h0 y)
      have N3 := Lib.hid (fun k hk => nxt_part hR (k := k) hk)
      clear hp hE hV hR
      generalize frmB x = F at *
      have hF : 0 < F.length ∧ F.length ≤ 1100 := by omega
      clear hfl hd4
      go_wp2_with fail
      refine Hp.out.mono ?_
      rintro e w2 ⟨f, rfl, hmo, hb2⟩
      have hB2 : Below w.heap.size w w2 := hb1.trans (hb2.mono hb1.size)
      obtain ⟨Af, cf, rfl, hsf, _⟩ := hmo.sl
      have HFs := Lib.hid hsf
      clear Hp hmo hsf
      go_wp2_with fail
      go_loop [11] (fun i => ∃ k : Nat, i = .int .i64 k ∧ k ≤ n ∧ Hid ((56 : UInt8) ∉ l.take k)) (fun i => n - (intOf i).toNat)
      case atStart => exact ⟨0, rfl, by omega, Lib.hid (by simp)⟩
      case round =>
        obtain ⟨k, rfl, hk, Hk⟩ := hrel
        by_cases hlt : k < n
        · have hkl : k < l.length := by omega
          obtain ⟨b, off, rfl, h0⟩ := (HL.out.on hB2).row.byte hkl
          rcases u8_beq (c := l[k]) (n := 56) (by omega) with ⟨d1, d2, d3⟩ | ⟨d1, d2, d3⟩
          · replace h0 : w2.cell? ⟨b, off + k, none⟩ = some (.int .u8 56) := by rw [h0, d3]; rfl
            clear Hk d1 d2 d3
            go_wp2
            go_ret
            exact ⟨rfl, hB2⟩
          · have d1' : ((l[k].toNat : Int) == 56) = false := d1
            have Hk2 := Lib.hid (show (56 : UInt8) ∉ l.take (k + 1) by
              rw [List.take_succ_eq_append_getElem hkl, List.mem_append]
              rintro (h | h)
              · exact Hk.out h
              · simp at h; exact d3 h.symm)
            clear Hk d1 d2 d3
            generalize l[k].toNat = z at h0 d1'
            go_wp2
            go_round
            case rel => exact ⟨k + 1, by go_num, by omega, Hk2⟩
            case measure => simp [intOf]; omega
        · obtain rfl : k = n := by omega
          have h8 : (56 : UInt8) ∉ l := by have := Hk.out; rwa [List.take_of_length_le (by omega)] at this
          have H8 := Lib.hid h8
          clear Hk h8
          obtain ⟨i0, hi, iz0, iz1, iz2⟩ := info_parts infoB
          have own0 := mo_empty w2 5
          have hz2 := hB2.size
          have hB3 := hB2.alloc hz2 (.cells #[] 5)
          have hx3 := HL.out.on hB3
          go_wp2_with (at_builtin; refine wpList_append_mo rfl (.tmp 58) (.tmp 59) 22 rfl w2.heap.size 5 i0 Tryd.underlying22 hi iz0 iz1 iz2 _ _ _ rfl own0 A k c (bcells l) rfl hx3 (bcells_one _) ?c3 ?c4 ?c5 ?_)
          case c3 => unfold maxLen; omega
          case c4 => omega
          intro v4 w4 own4 hg4 _
          have hb4 : Below w2.heap.size w2 w4 := own0.below ((Below.refl _ _).alloc (Nat.le_refl _) _) hg4 (by simp) (Nat.le_refl _)
          have hz4 := hb4.size
          have hy4 := HFs.out.on hb4
          clear hg4 own0 hx3 hB3
          go_wp2_with (at_builtin; refine wpList_append_mo rfl (.tmp 60) (.tmp 61) 22 rfl w2.heap.size 5 i0 Tryd.underlying22 hi iz0 iz1 iz2 _ _ _ rfl own4 Af F.length cf (bcells F) rfl hy4 (bcells_one _) ?d3 ?d4 ?d5 ?_)
          case d3 => unfold maxLen; omega
          case d4 => omega
          case d5 => omega
          intro v5 w5 own5 hg5 _
          have hb5 : Below w2.heap.size w2 w5 := own4.below hb4 hg5 hz4 (Nat.le_refl _)
          have hB5 : Below w.heap.size w w5 := hB2.trans (hb5.mono hz2)
          have hz5 := hb5.size
          have hy5 := HY.out.on hB5
          clear hg5 own4 hy4 hb4
          go_wp2_with (at_builtin; refine wpList_append_mo rfl (.tmp 62) (.tmp 63) 22 rfl w2.heap.size 5 i0 Tryd.underlying22 hi iz0 iz1 iz2 _ _ _ rfl own5 D m d (bcells y) rfl hy5 (bcells_one _) ?e3 ?e4 ?e5 ?_)
          case e3 => unfold maxLen; omega
          case e4 => omega
          case e5 => omega
          intro v6 w6 own6 hg6 _
          have hb6 : Below w2.heap.size w2 w6 := own5.below hb5 hg6 hz5 (Nat.le_refl _)
          have hB6 : Below w.heap.size w w6 := hB2.trans (hb6.mono hz2)
          have hz6 := hb6.size
          have own7 : Mo w6 w2.heap.size v6 (k + F.length + m) (bcells (l ++ (F ++ y))) := own6.cast (by simp [bcells]) (by omega)
          have HF6 := Lib.hid (HFs.out.on hb6)
          have HX6 := HX.out.on hB6
          clear hg6 own5 hy5 own6 HFs hb5 hB5 hb6
          obtain ⟨g, cs, rfl, hs6, _, _⟩ := own7.sl
          by_cases hk0 : k = 0
          · have hl0 : l = [] := List.eq_nil_of_length_eq_zero (by omega)
            rw [hl0, List.nil_append] at hs6
            subst hk0
            rw [Nat.zero_add] at hs6
            have HSs := Lib.hid hs6
            clear own7 hs6 N2 H8 hl0
            have hn1' := frame_Next _ _ _ (F ++ y) w6 HSs.out (by rw [List.length_append]; omega) (by omega) (hctx.on hB6)
            rw [show NextPost (F ++ y) w6 = fun e w' => ∃ A n c, e = .returned (.tuple #[.int .i64 1, .slice A n c, .int .i64 (F.length : Nat)]) ∧ Sl w' A n c 1 (bcells x) ∧ Below (w6).heap.size w6 w' ∧ Fm A from by
              funext e w'; unfold NextPost; rw [N1.out]] at hn1'
            have Hn1 := Lib.hid hn1'
            clear hn1'
            go_wp2_with fail
            refine Hn1.out.mono ?_
            rintro e w8 ⟨A8, n8, c8, rfl, hs8, hb8, _⟩
            have hB8 : Below w.heap.size w w8 := Below.trans hB6 (hb8.mono (hB6).size)
            have k1 := conv_sl hs8
            have k2 := conv_sl (HX.out.on hB8)
            have HF8 := (HF6.out.on hb8)
            obtain ⟨q, hq⟩ : ∃ q : Nat, a % (F.length : Int) = (q : Int) := ⟨(a % (F.length : Int)).toNat, by have := Int.emod_nonneg a (show (F.length : Int) ≠ 0 by omega); omega⟩
            have hqF : q < F.length := by have := Int.emod_lt_of_pos a (show (0 : Int) < F.length by omega); omega
            have hqt : Int.tmod a (F.length : Int) = (q : Int) := by rw [Int.tmod_eq_emod_of_nonneg a0]; exact hq
            have hcut := HF8.front q (by omega)
            rw [bcells_take] at hcut
            have hn9 := frame_Next _ q cf (F.take q) w8 hcut (by rw [List.length_take]; omega) (by omega) (hctx.on hB8)
            rw [show NextPost (F.take q) w8 = fun e w' => ∃ A n c, e = .returned (.tuple #[.int .i64 0, .slice A n c, .int .i64 0]) ∧ Sl w' A n c 1 [] ∧ Below w8.heap.size w8 w' ∧ Fm A from by
              funext e w'; unfold NextPost; rw [N3.out q hqF]; rfl] at hn9
            have Hn9 := Lib.hid hn9
            have hFc := HF8.le
            have hF0 : ((F.length : Int) == 0) = false := by rw [beq_eq_false_iff_ne]; omega
            have hqc : (q : Int) ≤ (cf : Int) := by omega
            have hqz : (0 : Int) ≤ (q : Int) := by omega
            clear hn9 hcut HF8 hs8 Hn1 HSs N1 N3
            generalize (⟨x.toArray⟩ : ByteArray) = SX at *
            go_wp2_with fail
            refine Hn9.out.mono ?_
            rintro e w9 ⟨A9, n9, c9, rfl, hs9, hb9, _⟩
            have hB9 : Below w.heap.size w w9 := hB8.trans (hb9.mono hB8.size)
            clear Hn9 hs9 k1 k2
            go_wp2
            go_ret
            exact ⟨rfl, hB9⟩
          · have hl0 : l ≠ [] := fun h0 => hk0 (by rw [← hn, h0]; rfl)
            have hn7 := frame_Next _ (k + F.length + m) cs (l ++ (F ++ y)) w6 hs6 (by rw [List.length_append, List.length_append]; omega) (by omega) (hctx.on hB6)
            rw [show NextPost (l ++ (F ++ y)) w6 = fun e w' => ∃ A n c, e = .returned (.tuple #[.int .i64 2, .slice A n c, .int .i64 (k : Nat)]) ∧ Sl w' A n c 1 [] ∧ Below w6.heap.size w6 w' ∧ Fm A from by
              funext e w'; unfold NextPost; rw [N2.out H8.out hl0, hn]; rfl] at hn7
            have Hn7 := Lib.hid hn7
            have hcs := hs6.le
            have hs7 := hs6.cut k (by omega)
            rw [if_neg (by omega), Option.map_some, addr_at, bcells_drop, show (l ++ (F ++ y)).drop k = F ++ y by rw [← hn, List.drop_left], Nat.zero_add] at hs7
            have Hs7 := Lib.hid hs7
            have hkc : ¬ cs = k := by omega
            clear own7 hs6 hs7 hn7 N2 H8 hl0
            go_wp2_with fail
            refine Hn7.out.mono ?_
            rintro e w7 ⟨A7, n7, c7, rfl, hs77, hb7, _⟩
            obtain rfl : n7 = 0 := by have := hs77.len; simp at this; omega
            have hB7 : Below w.heap.size w w7 := hB6.trans (hb7.mono hB6.size)
            have HSs := Lib.hid (Hs7.out.on hb7)
            have HF7 := Lib.hid (HF6.out.on hb7)
            clear Hn7 Hs7 hs77 HF6
            have hn1' := frame_Next _ _ _ (F ++ y) w7 HSs.out (by rw [List.length_append]; omega) (by omega) (hctx.on hB7)
            rw [show NextPost (F ++ y) w7 = fun e w' => ∃ A n c, e = .returned (.tuple #[.int .i64 1, .slice A n c, .int .i64 (F.length : Nat)]) ∧ Sl w' A n c 1 (bcells x) ∧ Below (w7).heap.size w7 w' ∧ Fm A from by
              funext e w'; unfold NextPost; rw [N1.out]] at hn1'
            have Hn1 := Lib.hid hn1'
            clear hn1'
            go_wp2_with fail
            refine Hn1.out.mono ?_
            rintro e w8 ⟨A8, n8, c8, rfl, hs8, hb8, _⟩
            have hB8 : Below w.heap.size w w8 := Below.trans hB7 (hb8.mono (hB7).size)
            have k1 := conv_sl hs8
            have k2 := conv_sl (HX.out.on hB8)
            have HF8 := (HF7.out.on hb8)
            obtain ⟨q, hq⟩ : ∃ q : Nat, a % (F.length : Int) = (q : Int) := ⟨(a % (F.length : Int)).toNat, by have := Int.emod_nonneg a (show (F.length : Int) ≠ 0 by omega); omega⟩
            have hqF : q < F.length := by have := Int.emod_lt_of_pos a (show (0 : Int) < F.length by omega); omega
            have hqt : Int.tmod a (F.length : Int) = (q : Int) := by rw [Int.tmod_eq_emod_of_nonneg a0]; exact hq
            have hcut := HF8.front q (by omega)
            rw [bcells_take] at hcut
            have hn9 := frame_Next _ q cf (F.take q) w8 hcut (by rw [List.length_take]; omega) (by omega) (hctx.on hB8)
            rw [show NextPost (F.take q) w8 = fun e w' => ∃ A n c, e = .returned (.tuple #[.int .i64 0, .slice A n c, .int .i64 0]) ∧ Sl w' A n c 1 [] ∧ Below w8.heap.size w8 w' ∧ Fm A from by
              funext e w'; unfold NextPost; rw [N3.out q hqF]; rfl] at hn9
            have Hn9 := Lib.hid hn9
            have hFc := HF8.le
            have hF0 : ((F.length : Int) == 0) = false := by rw [beq_eq_false_iff_ne]; omega
            have hqc : (q : Int) ≤ (cf : Int) := by omega
            have hqz : (0 : Int) ≤ (q : Int) := by omega
            clear hn9 hcut HF8 hs8 Hn1 HSs N1 N3
            generalize (⟨x.toArray⟩ : ByteArray) = SX at *
            go_wp2_with fail
            refine Hn9.out.mono ?_
            rintro e w9 ⟨A9, n9, c9, rfl, hs9, hb9, _⟩
            have hB9 : Below w.heap.size w w9 := hB8.trans (hb9.mono hB8.size)
            clear Hn9 hs9 k1 k2
            go_wp2
            go_ret
            exact ⟨rfl, hB9⟩
    · rw [hE, hV] at hp
      have Hp := Lib.hid hp
      clear hp hE hV
      go_wp2_with fail
      refine Hp.out.mono ?_
      rintro e w2 ⟨f, rfl, hmo, hb2⟩
      have hB2 : Below w.heap.size w w2 := hb1.trans (hb2.mono hb1.size)
      obtain ⟨Af, cf, rfl, hsf, _⟩ := hmo.sl
      clear Hp hmo hsf
      go_wp2
      go_ret
      exact ⟨rfl, hB2⟩
end Go.Proofs.YtidmgolahdkmlaaDoor
