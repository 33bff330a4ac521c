/-
  Layer 3, frame: what stands at the beginning: the document's own way.
-/
import Derived.Test.YtacaipnjedfdoaaGreatDoorFrmRefPut
import Derived.Test.YtacaipnjedfdoaaGreatDoorFrmNext
namespace Go.Proofs.YtacaipnjedfdoaaGreatDoor
open Go.RowKit

set_option maxRecDepth 100000 in
set_option maxHeartbeats 1000000 in
theorem ref_begins (A : Option Addr) (n c : Nat) (bs : List UInt8) (at' : Nat) (w : World) (h : Sl w A n c 1 (bcells bs)) (hn : bs.length = n) (hl : n ≤ 1000000) (hat : at' ≤ n) :
    Calls Tryz.prog 24 #[.slice A n c, .int .i64 at'] w fun e w' => e = .returned (.bool (begs (bs.drop at'))) ∧ Below w.heap.size w w' := by
  have HS := Lib.hid h
  have hle := h.le
  have hcm := h.cap
  unfold maxLen at hcm
  clear h
  have hSz : (⟨#[56, 61, 70, 73, 88, 46, 52, 46, 52, 1, 57, 61]⟩ : ByteArray).size = 12 := rfl
  have hSk : Hid (∀ k (hk : k < (⟨#[56, 61, 70, 73, 88, 46, 52, 46, 52, 1, 57, 61]⟩ : ByteArray).size), begL[k]? = some ((⟨#[56, 61, 70, 73, 88, 46, 52, 46, 52, 1, 57, 61]⟩ : ByteArray)[k])) := fun k hk => by
    have : k < begL.length := hk
    rw [List.getElem?_eq_getElem this]; rfl
  go_enter Tryz.func24, Tryz.ntmps24
  go_wp2
  generalize (⟨#[56, 61, 70, 73, 88, 46, 52, 46, 52, 1, 57, 61]⟩ : ByteArray) = S at *
  go_loopw [6] (fun i wr => ∃ k : Nat, i = .int .i64 k ∧ k ≤ 12 ∧ at' + k ≤ n ∧ Hid ((bs.drop at').take k = begL.take k) ∧ Below w.heap.size w wr) (fun i _ => 12 - (intOf i).toNat)
  case atStart => exact ⟨0, rfl, by omega, by omega, Lib.hid rfl, Below.refl _ _⟩
  case round =>
    obtain ⟨k, rfl, hk, hak, H, hb⟩ := hrel
    by_cases hk12 : k < 12
    · by_cases hlt : at' + k < n
      · have hkS : k < S.size := by omega
        obtain ⟨b, off, rfl, h0⟩ := (HS.out.on hb).row.byte (show at' + k < bs.length by omega)
        have hSk' := hSk.out k hkS
        have Hx := Lib.hid (show (bs.drop at')[k]? = some bs[at' + k] by rw [List.getElem?_drop, List.getElem?_eq_getElem (by omega)])
        generalize hx : bs[at' + k] = x at *
        have hi1 : (0 : Int) ≤ (at' : Int) + (k : Int) := by omega
        have hi2 : (at' : Int) + (k : Int) < (n : Int) := by omega
        have hi3 : (0 : Int) ≤ (k : Int) := by omega
        have hi4 : (k : Int) < (S.size : Int) := by omega
        by_cases hxe : x = S[k]
        · have HT := Lib.hid (show (bs.drop at').take (k + 1) = begL.take (k + 1) by
            rw [List.take_add_one, List.take_add_one, H.out, Hx.out, hSk', hxe])
          clear H Hx hSk' hx
          subst hxe
          go_wp2
          go_quiet (fail)
          go_wp2
          go_roundw
          case rel => exact ⟨k + 1, by go_num, by omega, by omega, HT, ⟨hb.os, hb.tape, hb.output, hb.size, hb.block⟩⟩
          case measure => simp [intOf]; omega
        · have HF := Lib.hid (show begs (bs.drop at') = false by
            rw [Bool.eq_false_iff]; intro hbg
            have := begs_at hbg hk12 (by rw [List.length_drop]; omega)
            rw [Hx.out, hSk'] at this
            injection this with this; exact hxe this)
          have hne : ((x.toNat : Int) == (S[k].toNat : Int)) = false := by
            rw [beq_eq_false_iff_ne]; intro he; exact hxe (UInt8.toNat_inj.1 (by omega))
          clear H Hx hSk' hx
          go_wp2
          go_quiet (fail)
          go_wp2
          go_ret
          exact ⟨retB HF.out.symm, ⟨hb.os, hb.tape, hb.output, hb.size, hb.block⟩⟩
      · have HT := Lib.hid (show begs (bs.drop at') = true from begs_end H.out (by omega) (.inr (by rw [List.length_drop]; omega)))
        have hi2 : ¬ ((at' : Int) + (k : Int) < (n : Int)) := by omega
        have hi4 : (k : Int) < (S.size : Int) := by omega
        clear H
        go_wp2
        go_ret
        exact ⟨retB HT.out.symm, hb⟩
    · have HT := Lib.hid (show begs (bs.drop at') = true from begs_end H.out hk (.inl (by omega)))
      have hi4 : ¬ ((k : Int) < (S.size : Int)) := by omega
      clear H
      go_wp2
      go_ret
      exact ⟨retB HT.out.symm, hb⟩
set_option maxRecDepth 100000 in
set_option maxHeartbeats 2000000 in
theorem ref_Next3T (A : Option Addr) (n c : Nat) (bs : List UInt8) (w : World) (h : Sl w A n c 1 (bcells bs)) (hn : bs.length = n) (hl : n ≤ 1000000) :
    Calls Tryz.prog 12 #[.slice A n c] w (NextPostT A bs w) := by
  have HS := Lib.hid h
  have hle := h.le
  have hcm := h.cap
  unfold maxLen at hcm
  by_cases hn0 : n = 0
  · have h0 : bs = [] := List.eq_nil_of_length_eq_zero (by omega)
    have HP := Lib.hid (fun w' hb e he => next_none (A0 := A) (w := w) (w' := w') (e := e) (show nxt bs = (0, [], 0) by rw [h0]; rfl) hb he)
    clear h h0
    go_enter Tryz.func12, Tryz.ntmps12
    go_wp2
    go_ret3
    exact HP.out _ (Below.refl _ _) _ rfl
  · have hne : bs ≠ [] := fun h0 => by rw [h0] at hn; exact hn0 hn.symm
    have hn1 : ((n : Int) == 0) = false := by simp; omega
    obtain ⟨b, off, rfl⟩ : ∃ b off, A = some ⟨b, off, none⟩ := by
      rcases h.row with h' | ⟨b, off, e, _⟩
      · exact absurd (List.map_eq_nil_iff.1 h') hne
      · exact ⟨b, off, e⟩
    have hbeg : Hid (∀ (k : Nat) W, k ≤ n → Below w.heap.size w W → Calls Tryz.prog 24 #[.slice (some ⟨b, off, none⟩) n c, .int .i64 k] W fun e w' => e = .returned (.bool (begs (bs.drop k))) ∧ Below w.heap.size w w') := fun k W hk hW =>
      (ref_begins _ n c bs k W (HS.out.on hW) hn hl hk).mono fun e w' ⟨he, hb⟩ => ⟨he, hW.trans (hb.mono hW.size)⟩
    clear h
    go_enter Tryz.func12, Tryz.ntmps12
    go_upto_block 0 with (fail)
    go_cut [5] from 14 to 25 (fun s5 wx => s5 = .int .i64 (junkN bs : Nat) ∧ Below w.heap.size w wx)
    case first =>
      go_wp2_with fail
      go_loopw [5] (fun v wr => ∃ k : Nat, v = .int .i64 (k : Nat) ∧ 1 ≤ k ∧ k ≤ n ∧ Hid (k ≤ junkN bs) ∧ Below w.heap.size w wr) (fun v _ => n - (intOf v).toNat)
      case atStart => exact ⟨1, rfl, by omega, by omega, Lib.hid (junk_pos bs), Below.refl _ _⟩
      case round =>
        obtain ⟨k, rfl, hk1, hkn, Hk, hb⟩ := hrel
        by_cases hlt : k < n
        · have hbk := hbeg.out k wr hkn hb
          rcases hbg : begs (bs.drop k) with _ | _
          · rw [hbg] at hbk
            have Hk2 := Lib.hid (show k + 1 ≤ junkN bs by
              have h1 := Hk.out
              rcases Nat.lt_or_ge k (junkN bs) with h | h
              · omega
              · have : k = junkN bs := by omega
                have h2 := junk_begs bs
                rw [← this, hbg] at h2; cases h2)
            have Hbk := Lib.hid hbk
            clear Hk hbg hbk hbeg
            go_wp2_with fail
            refine Hbk.out.mono ?_
            rintro e w1 ⟨rfl, hb1⟩
            go_wp2
            go_roundw
            case rel => exact ⟨k + 1, by go_num, by omega, by omega, Hk2, hb1⟩
            case measure => simp [intOf]; omega
          · rw [hbg] at hbk
            have hj : junkN bs = k := by have := junk_le hk1 (b := bs) hbg; have := Hk.out; omega
            have Hbk := Lib.hid hbk
            clear Hk hbg hbk hbeg
            go_wp2_with fail
            refine Hbk.out.mono ?_
            rintro e w1 ⟨rfl, hb1⟩
            go_wp2
            go_meet
            case rel => exact ⟨by rw [hj], hb1⟩
        · have hj : junkN bs = k := by
            have h1 := Hk.out
            have h2 := junk_len hne
            omega
          clear hbeg Hk
          go_wp2
          go_meet
          case rel => exact ⟨by rw [hj], hb⟩
    case rest =>
      obtain ⟨rfl, hB1⟩ := hcut
      have hb0 := hbeg.out 0 wc (by omega) hB1
      rw [List.drop_zero] at hb0
      rcases hbg : begs bs with _ | _
      · have HP := Lib.hid (fun w' hb e he => next_none (A0 := some ⟨b, off, none⟩) (w := w) (w' := w') (e := e) (show nxt bs = (2, [], junkN bs) by
          unfold begs at hbg
          rw [Bool.or_eq_false_iff] at hbg
          unfold nxt
          rw [hbg.2, show Lib.hasPrefix bs begL = false from hbg.1]; rfl) hb he)
        rw [hbg] at hb0
        have Hb0 := Lib.hid hb0
        clear hbg hb0 hbeg
        go_wp2_with fail
        refine Hb0.out.mono ?_
        rintro e w1 ⟨rfl, hb1⟩
        go_wp2
        go_ret3
        exact HP.out _ hb1 _ rfl
      · by_cases h12 : n < 12
        · have HP := Lib.hid (fun w' hb e he => next_none (A0 := some ⟨b, off, none⟩) (w := w) (w' := w') (e := e) (show nxt bs = (0, [], 0) by
            unfold begs at hbg
            rw [Bool.or_eq_true] at hbg
            have : starts3 bs = true := by
              rcases hbg with h | h
              · have := (pre_beg (b := bs) h).2; omega
              · exact h
            unfold nxt
            rw [if_pos this]) hb he)
          rw [hbg] at hb0
          have Hb0 := Lib.hid hb0
          clear hbg hb0 hbeg
          go_wp2_with fail
          refine Hb0.out.mono ?_
          rintro e w1 ⟨rfl, hb1⟩
          go_wp2
          go_ret3
          exact HP.out _ hb1 _ rfl
        · have hs3 := starts_long (b := bs) (by omega)
          have hp : Lib.hasPrefix bs begL = true := by
            unfold begs at hbg
            rw [hs3, Bool.or_false] at hbg
            exact hbg
          rw [hbg] at hb0
          have Hb0 := Lib.hid hb0
          have N0 := Lib.hid (@nxt_h0 bs hs3 hp)
          have N2 := Lib.hid (@nxt_h2 bs hs3 hp)
          have N1 := Lib.hid (@nxt_h1 bs hs3 hp)
          clear hbg hb0 hbeg hs3 hp
          go_wp2_with fail
          refine Hb0.out.mono ?_
          rintro e w1 ⟨rfl, hb1⟩
          clear Hb0 hB1
          go_upto_block 2 with (fail)
          obtain ⟨r, hr⟩ : ∃ r, r = bs.drop 12 := ⟨_, rfl⟩
          have hrl : r.length + 12 = n := by rw [hr, List.length_drop]; omega
          have hby : Hid (∀ j (hj : j < r.length) W, Below w.heap.size w W → W.cell? ⟨b, off + (12 + j), none⟩ = some (.int .u8 r[j].toNat)) := fun j hj W hW => by
            obtain ⟨b', off', e, hc⟩ := (HS.out.on hW).row.byte (show 12 + j < bs.length by omega)
            injection e with e; injection e with e1 e2 _; subst e1; subst e2
            rw [hc]
            subst hr
            rw [List.getElem_drop]
          rw [← hr] at N0 N2 N1
          have Hr := Lib.hid hr
          clear hr
          go_cut [6, 7] from 33 to 65 (fun s6 s7 wx => wx = w1 ∧ ∃ j : Nat, s7 = .int .i64 ((12 + j : Nat) : Int) ∧ s6 = .int .i64 ((decA 0 (r.take j) : Nat) : Int) ∧ Hid (Digs r j))
          case first =>
            go_wp2_with fail
            go_loop [6, 7] (fun s6 s7 => ∃ j : Nat, s7 = .int .i64 ((12 + j : Nat) : Int) ∧ s6 = .int .i64 ((decA 0 (r.take j) : Nat) : Int) ∧ j ≤ 4 ∧ j ≤ r.length ∧ Hid ((r.take j).all digB = true)) (fun _ s7 => 20 - (intOf s7).toNat)
            case atStart => exact ⟨0, rfl, rfl, by omega, by omega, rfl⟩
            case round =>
              obtain ⟨j, rfl, rfl, hj4, hjt, hall⟩ := hrel
              have hlt10 : decA 0 (r.take j) < 10000 := by
                have h1 := decA_lt (r.take j) 0 0 hall.out (by decide)
                have h2 : 10 ^ (0 + (r.take j).length) ≤ 10 ^ 4 := Nat.pow_le_pow_right (by decide) (by simp; omega)
                have h3 : (10 : Nat) ^ 4 = 10000 := by decide
                omega
              by_cases hA : j = r.length
              · have HD : Hid (Digs r j) := ⟨hj4, hjt, hall.out, fun _ c hc => by rw [List.getElem?_eq_none (by omega)] at hc; cases hc⟩
                have hpe : 12 + j = n := by omega
                clear hall hby hA
                go_wp2
                go_meet
                case rel => exact ⟨rfl, j, by first | rfl | rw [hpe], rfl, HD⟩
              · have hjl : j < r.length := by omega
                have hjn : 12 + j < n := by omega
                have hcj := hby.out j hjl w1 hb1
                have hdg : Hid (digB r[j] = decide (48 ≤ r[j].toNat ∧ r[j].toNat ≤ 57)) := rfl
                have hget : Hid (r[j]? = some r[j]) := List.getElem?_eq_getElem hjl
                have hsn : Hid (decA 0 (r.take (j + 1)) = decA 0 (r.take j) * 10 + (r[j].toNat - 48)) := by
                  rw [List.take_succ_eq_append_getElem hjl, decA_snoc]; rfl
                have hal : Hid ((r.take (j + 1)).all digB = ((r.take j).all digB && digB r[j])) := all_take_b _ _ _ hjl
                have hno : Hid (j = 4 ∨ digB r[j] = false → Digs r j) := fun h => ⟨hj4, hjt, hall.out, fun h4 c hc => by
                  rw [hget.out] at hc; injection hc with hc; subst hc
                  rcases h with h | h
                  · omega
                  · exact h⟩
                generalize r[j] = y at *
                have hy := y.toNat_lt
                have hdy : digB y = decide (48 ≤ y.toNat ∧ y.toNat ≤ 57) := rfl
                generalize hyx : y.toNat = x at *
                clear hby hget hA hdg hyx
                by_cases hB : j = 4
                · have HD := Lib.hid (hno.out (.inl hB))
                  clear hno hal hsn hall hdy
                  subst hB
                  go_wp2
                  go_meet
                  case rel => exact ⟨rfl, 4, rfl, rfl, HD⟩
                · have hj : j < 4 := by omega
                  rcases (show x < 48 ∨ 57 < x ∨ (48 ≤ x ∧ x ≤ 57) by omega) with h | h | ⟨h, h'⟩
                  · have HD := Lib.hid (hno.out (.inr (by rw [hdy]; simp; omega)))
                    clear hno hal hsn hall hdy hB
                    go_wp2
                    go_meet
                    case rel => exact ⟨rfl, j, rfl, rfl, HD⟩
                  · have HD := Lib.hid (hno.out (.inr (by rw [hdy]; simp; omega)))
                    clear hno hal hsn hall hdy hB
                    go_wp2
                    go_meet
                    case rel => exact ⟨rfl, j, rfl, rfl, HD⟩
                  · have HA : Hid ((r.take (j + 1)).all digB = true) := by rw [hal.out, hall.out, hdy]; simp [Hid, h, h']
                    clear hno hal hall hdy hB
                    generalize decA 0 (r.take j) = a at *
                    go_wp2
                    go_round
                    case rel => exact ⟨j + 1, by go_num, by rw [hsn.out]; go_num, by omega, by omega, HA⟩
                    case measure => simp [intOf]; omega
          case rest =>
            obtain ⟨hwx, j, rfl, rfl, HD⟩ := hcut
            rw [← hwx] at hb1
            clear hwx
            have hj4 := HD.out.1
            have hjt := HD.out.2.1
            have hlt10 : decA 0 (r.take j) < 10000 := by
              have h1 := decA_lt (r.take j) 0 0 HD.out.2.2.1 (by decide)
              have h2 : 10 ^ (0 + (r.take j).length) ≤ 10 ^ 4 := Nat.pow_le_pow_right (by decide) (by simp; omega)
              have h3 : (10 : Nat) ^ 4 = 10000 := by decide
              omega
            have HK := Lib.hid (headK_ref HD.out)
            have hJ : Hid (headK r = 2 → ∀ w', Below w.heap.size w w' → ∀ e, e = .returned (.tuple #[.int .i64 2, .slice none 0 0, .int .i64 (junkN bs : Nat)]) → NextPostT (some ⟨b, off, none⟩) bs w e w') := fun hk w' hb e he => next_none (N2.out hk) hb he
            have hN : Hid (headK r = 0 → ∀ w', Below w.heap.size w w' → ∀ e, e = .returned (.tuple #[.int .i64 0, .slice none 0 0, .int .i64 0]) → NextPostT (some ⟨b, off, none⟩) bs w e w') := fun hk w' hb e he => next_none (m := 0) (N0.out hk) hb he
            clear N0 N2
            by_cases hj0 : j = 0
            · subst hj0
              have hnA : ¬ (0 < 0 ∧ (r[0]? = some 48 ∨ 8000 < decA 0 (r.take 0))) := fun h => by omega
              by_cases hr0 : r.length = 0
              · have HP := Lib.hid (hN.out ((HK.out.2 hnA).1 hr0.symm))
                have hn12 : n = 12 := by omega
                clear HK hJ hN HD N1 hby hnA
                subst hn12
                go_wp2
                go_ret3
                exact HP.out _ hb1 _ rfl
              · have HP := Lib.hid (hJ.out ((HK.out.2 hnA).2.1 (by omega) (.inl rfl)))
                have hn12 : ((12 : Int) == (n : Int)) = false := by rw [beq_eq_false_iff_ne]; omega
                clear HK hJ hN HD N1 hby hnA
                go_wp2
                go_ret3
                exact HP.out _ hb1 _ rfl
            · have hrp : 0 < r.length := by omega
              have hc0 := hby.out 0 hrp wc hb1
              rw [Nat.add_zero] at hc0
              have hg0 : r[0]? = some r[0] := List.getElem?_eq_getElem hrp
              have hv0 : Hid (decA 0 (r.take j) = decA 0 (r.take j)) := rfl
              rcases u8_beq (c := r[0]) (n := 48) (by omega) with ⟨d1, d2, d3⟩ | ⟨d1, d2, d3⟩
              · have HP := Lib.hid (hJ.out (HK.out.1 ⟨by omega, .inl (by rw [hg0, d3]; rfl)⟩))
                replace hc0 : wc.cell? ⟨b, off + 12, none⟩ = some (.int .u8 48) := by rw [hc0, d3]; rfl
                clear HK hJ hN HD N1 hby d1 d2 d3 hg0
                go_wp2
                go_ret3
                exact HP.out _ hb1 _ rfl
              · have d1' : ((r[0].toNat : Int) == 48) = false := d1
                have h48 : Hid (r[0]? ≠ some 48) := by rw [hg0]; intro e; injection e with e; exact d3 e
                clear d1 d2 d3 hg0
                generalize r[0].toNat = x at hc0 d1'
                by_cases hv8 : 8000 < decA 0 (r.take j)
                · have HP := Lib.hid (hJ.out (HK.out.1 ⟨by omega, .inr hv8⟩))
                  clear HK hJ hN HD N1 hby h48
                  generalize decA 0 (r.take j) = v at *
                  go_wp2
                  go_ret3
                  exact HP.out _ hb1 _ rfl
                · have hnA : ¬ (0 < j ∧ (r[0]? = some 48 ∨ 8000 < decA 0 (r.take j))) := fun h => by
                    rcases h.2 with h | h
                    · exact h48.out h
                    · exact hv8 h
                  have HK2 := Lib.hid (HK.out.2 hnA)
                  clear hnA HK h48
                  by_cases hjl : j = r.length
                  · have HP := Lib.hid (hN.out (HK2.out.1 hjl))
                    have hpe : 12 + j = n := by omega
                    have hpe2 : (12 : Int) + (j : Int) = (n : Int) := by omega
                    clear HK2 hJ hN HD N1 hby hjl
                    generalize decA 0 (r.take j) = v at *
                    go_wp2
                    go_ret3
                    exact HP.out _ hb1 _ rfl
                  · have hjl' : j < r.length := by omega
                    have hcj := hby.out j hjl' wc hb1
                    have hgj : r[j]? = some r[j] := List.getElem?_eq_getElem hjl'
                    have hpe : 12 + j < n := by omega
                    have hpe2 : ((12 : Int) + (j : Int) == (n : Int)) = false := by rw [beq_eq_false_iff_ne]; omega
                    have hpe3 : ((12 : Int) + (j : Int) == 12) = false := by rw [beq_eq_false_iff_ne]; omega
                    rcases u8_beq (c := r[j]) (n := 1) (by omega) with ⟨d1, d2, d3⟩ | ⟨d1, d2, d3⟩
                    · replace hcj : wc.cell? ⟨b, off + (12 + j), none⟩ = some (.int .u8 1) := by rw [hcj, d3]; rfl
                      obtain ⟨hk1, hlT⟩ := HK2.out.2.2 (by omega) (by rw [hgj, d3]; rfl)
                      have Nn := N1.out hk1
                      obtain ⟨_, hok, _⟩ := headK_one hk1
                      rw [hlT] at hok
                      obtain ⟨_, hv1, _⟩ := lenB_back hok
                      have hwh : wholeOf bs = 12 + j + 1 + decA 0 (r.take j) + 7 := by unfold wholeOf; rw [← Hr.out, hlT, List.length_take, Nat.min_eq_left hjt]
                      have hbo : bodyOf bs = (bs.drop (12 + j + 1)).take (decA 0 (r.take j)) := by unfold bodyOf; rw [← Hr.out, hlT, List.length_take, Nat.min_eq_left hjt]
                      clear HK2 hJ hN HD N1 hby d1 d2 d3 hgj hk1 hlT hok Hr
                      generalize decA 0 (r.take j) = v at *
                      have HnJ : Hid (nxt bs = (2, [], junkN bs) → ∀ w', Below w.heap.size w w' → ∀ e, e = .returned (.tuple #[.int .i64 2, .slice none 0 0, .int .i64 (junkN bs : Nat)]) → NextPostT (some ⟨b, off, none⟩) bs w e w') := fun hk w' hb e he => next_none hk hb he
                      by_cases hlt : n < 12 + j + 1 + v + 7
                      · have HP := Lib.hid (fun w' hb e he => next_none (A0 := some ⟨b, off, none⟩) (w := w) (w' := w') (e := e) (m := 0) (show nxt bs = (0, [], 0) by rw [Nn, if_pos (by omega)]) hb he)
                        have hlt2 : (n : Int) < 12 + (j : Int) + 1 + (v : Int) + 7 := by omega
                        clear hwh hbo Nn HnJ
                        go_wp2
                        go_ret3
                        exact HP.out _ hb1 _ rfl
                      · rw [if_neg (by omega)] at Nn
                        have hbody := (HS.out.cut (12 + j + 1) (by omega))
                        rw [if_neg (by omega), Option.map_some, addr_at, bcells_drop] at hbody
                        have hbody := hbody.front v (by omega)
                        rw [bcells_take, ← hbo] at hbody
                        have hbl : (bodyOf bs).length = v := by have := hbody.len; rw [bcells_len] at this; omega
                        have hwhole := HS.out.front (12 + j + 1 + v + 7) (by omega)
                        rw [bcells_take, show bs.take (12 + j + 1 + v + 7) = bs.take (wholeOf bs) by rw [hwh]] at hwhole
                        have hput := Lib.hid (ref_Put3 _ v (c - (12 + j + 1)) (bodyOf bs) wc (hbody.on hb1) hbl (by omega))
                        rw [show FPutPost (bodyOf bs) wc = fun e w' => ∃ f, e = .returned (.tuple #[f, .int .i64 (frmE (bodyOf bs))]) ∧ Moz w' wc.heap.size f (frmV (bodyOf bs)).length (bcells (frmV (bodyOf bs))) ∧ Below wc.heap.size wc w' from rfl] at hput
                        have Hbody := Lib.hid hbody
                        have Hwhole := Lib.hid hwhole
                        have hcH : ¬ c = 12 + j + 1 := by omega
                        have hwb : 12 + j + 1 + v ≤ n := by omega
                        have Hwh := Lib.hid hwh
                        have hlt2 : ¬ ((n : Int) < 12 + (j : Int) + 1 + (v : Int) + 7) := by omega
                        clear hbo hwh hbody hwhole
                        generalize bodyOf bs = xb at *
                        generalize hV : frmV xb = V at *
                        generalize hE : frmE xb = E at *
                        go_wp2_with (fail)
                        refine hput.out.mono ?_
                        rintro e w4 ⟨f, rfl, hmo, hb4⟩
                        have hB4 : Below w.heap.size w w4 := hb1.trans (hb4.mono hb1.size)
                        obtain ⟨Af, cf, rfl, hsf, _⟩ := hmo.sl
                        clear hput hmo hcj hc0 d1' hpe2 hpe
                        by_cases hE0 : E = 0
                        · subst hE0
                          have hbq : ∀ q, Below w4.heap.size w4 (w4.drewN q) := fun q => ⟨rfl, rfl, rfl, Nat.le_refl _, fun _ _ => rfl⟩
                          have k1 := fun q => conv_sl (hsf.on (hbq q))
                          have k2 := fun q => conv_sl ((Hwhole.out.on hB4).on (hbq q))
                          by_cases hVV : V = bs.take (wholeOf bs)
                          · rw [if_pos ⟨rfl, hVV⟩] at Nn
                            rw [← hVV] at k2
                            have HP := Lib.hid (show ∀ w', Sl w' (some ⟨b, off + (12 + j + 1), none⟩) v (c - (12 + j + 1)) 1 (bcells xb) → Below w.heap.size w w' → ∀ e, e = .returned (.tuple #[.int .i64 1, .slice (some ⟨b, off + (12 + j + 1), none⟩) v (c - (12 + j + 1)), .int .i64 (12 + (j : Int) + 1 + v + 7)]) → NextPostT (some ⟨b, off, none⟩) bs w e w' from fun w' hs' hb' e he => ⟨some ⟨b, off + (12 + j + 1), none⟩, v, c - (12 + j + 1), by rw [Nn, he]; show _ = Ending.returned (.tuple #[.int .i64 1, _, .int .i64 (wholeOf bs : Nat)]); rw [Hwh.out]; congr 6, by rw [Nn]; exact hs', hb', .inr ⟨_, _, rfl⟩, fun ty b' off' e' => by injection e' with e'; injection e' with e1 e2 _; subst e1; exact (ty.keep fun _ _ _ hc => hb'.block _ (block_lt hc)) b off rfl⟩)
                            clear hVV Nn hsf hbq
                            generalize (⟨V.toArray⟩ : ByteArray) = S1 at *
                            go_wp2
                            go_quiet (fail)
                            clear k1 k2
                            go_wp2
                            go_quiet (fail)
                            go_wp2
                            simp only [Nat.add_sub_cancel_left]
                            go_ret3
                            have hb9 : ∀ q q', Below w.heap.size w ((w4.drewN q).drewN q') := fun q q' => ⟨hB4.os, hB4.tape, hB4.output, hB4.size, hB4.block⟩
                            exact HP.out _ (Hbody.out.on (hb9 _ _)) (hb9 _ _) _ rfl
                          · rw [if_neg (fun h => hVV h.2)] at Nn
                            have HP := Lib.hid (HnJ.out Nn)
                            have hS : ((⟨V.toArray⟩ : ByteArray).toList == (⟨(bs.take (wholeOf bs)).toArray⟩ : ByteArray).toList) = false := by
                              rw [ByteArray.toList_eq, ByteArray.toList_eq]; simpa using hVV
                            clear hVV Nn hsf hbq HnJ
                            generalize (⟨V.toArray⟩ : ByteArray) = S1 at *
                            generalize (⟨(bs.take (wholeOf bs)).toArray⟩ : ByteArray) = S2 at *
                            go_wp2
                            go_quiet (fail)
                            clear k1 k2
                            go_wp2
                            go_ret3
                            exact HP.out (w4.drewN _) ⟨hB4.os, hB4.tape, hB4.output, hB4.size, hB4.block⟩ _ rfl
                        · rw [if_neg (fun h => hE0 h.1)] at Nn
                          have HP := Lib.hid (HnJ.out Nn)
                          have hE1 : (E == 0) = false := by simpa using hE0
                          clear Nn hsf HnJ
                          go_wp2
                          go_quiet (fail)
                          go_wp2
                          go_ret3
                          exact HP.out (w4.drewN _) ⟨hB4.os, hB4.tape, hB4.output, hB4.size, hB4.block⟩ _ rfl
                    · have HP := Lib.hid (hJ.out (HK2.out.2.1 hjl' (.inr (by rw [hgj]; intro e; injection e with e; exact d3 e))))
                      have d1' : ((r[j].toNat : Int) == 1) = false := d1
                      have d2' : ((r[j].toNat : Int) != 1) = true := d2
                      clear HK2 hJ hN HD N1 hby d1 d2 d3 hgj
                      generalize r[j].toNat = y at hcj d1' d2'
                      generalize decA 0 (r.take j) = v at *
                      go_wp2
                      go_ret3
                      exact HP.out _ hb1 _ rfl
theorem ref_Next3 (A : Option Addr) (n c : Nat) (bs : List UInt8) (w : World) (h : Sl w A n c 1 (bcells bs)) (hn : bs.length = n) (hl : n ≤ 1000000) :
    Calls Tryz.prog 12 #[.slice A n c] w (NextPost bs w) := (ref_Next3T A n c bs w h hn hl).mono fun e w' h => h.plain e w'
end Go.Proofs.YtacaipnjedfdoaaGreatDoor
