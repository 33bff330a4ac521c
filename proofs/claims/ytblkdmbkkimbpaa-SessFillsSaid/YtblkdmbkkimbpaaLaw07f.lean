/-
  Layer 7's laws: SessFills.
-/
import Derived.Test.YtblkdmbkkimbpaaLaw07f0
namespace Go.Proofs.Ytblkdmbkkimbpaa
open Go.RowKit

set_option maxRecDepth 100000 in
set_option maxHeartbeats 8000000 in
theorem walk_SessFills (C : SessC) (p_0 : Option Addr) (N0 c0 : Nat) (l0 : List Bool) (ln0 : l0.length = N0) (p_1 : Option Addr) (n1 c1 : Nat) (W : World) (s0 : Sl W p_0 N0 c0 1 (boolcells l0)) (_ : True) :
    Calls Try.prog 3 #[.slice p_0 N0 c0, .slice p_1 n1 c1] W fun e W' => e = .returned (.bool true) ∧ Below W.heap.size W W' := by
  have HA := Lib.hid (awake07 C W)
  have hcap0 : c0 ≤ 9223372036854775807 := by have := s0.cap; unfold maxLen at this; omega
  have hnc0 := s0.le
  by_cases hbig : 60 < N0
  · have hbb : decide ((60 : Int) < (N0 : Int)) = true := decide_eq_true (by omega)
    clear hbig
    go_enter Try.func3, Try.ntmps3
    go_wp2_with fail
    refine HA.out.mono ?_
    rintro e w1 ⟨rfl, hb1⟩
    go_wp2
    go_ret
    exact ⟨rfl, hb1⟩
  · have hN : N0 ≤ 60 := by omega
    have hbb : decide ((60 : Int) < (N0 : Int)) = false := decide_eq_false (by omega)
    have hwn : IntKind.i64.wrap ((N0 : Int) + 2) = (N0 : Int) + 2 := by rw [IntKind.wrap_i64]; omega
    have H1 := Lib.hid (fun V : World => C.new 30 V (by decide) (by decide))
    have H2 := Lib.hid (fun (V : World) => (show Calls Try.prog 8 #[.agg (sesArr (newS 30) none 0 0), .int .i64 0] V (fun e w' => ∃ A c B d, e = .returned (.tuple #[.agg (sesArr (askedS 30 0 0) A 0 c), .slice B 1 d, .int .i64 0]) ∧ Sl w' A 0 c 20 [] ∧ Below V.heap.size V w') from
      (C.connect (newS 30) none 0 0 0 V rfl (by decide) (Sl.none_ _ _)).mono fun e w' ⟨A, n, c, B, m, d, he, h1, h2, h3, h4, h5⟩ => by
        rw [start_connect (by omega) (by decide)] at he h1 h2 h3 h4
        obtain rfl : n = 0 := h1.symm
        obtain rfl : m = 1 := h2.symm
        exact ⟨A, c, B, d, he, h3, h5⟩))
    have H3 := Lib.hid (fun (A : Option Addr) (c : Nat) (V : World) (h : Sl V A 0 c 20 []) => (show Calls Try.prog 9 #[.agg (sesArr (askedS 30 0 0) A 0 c), .agg logon1.arr, .int .i64 0] V (fun e w' => ∃ A c B d B' d', e = .returned (.tuple #[.agg (sesArr (onS 30 0 0) A 0 c), .slice B 0 d, .slice B' 0 d', .bool false, .int .i64 0]) ∧ Sl w' A 0 c 20 [] ∧ Below V.heap.size V w') from
      (C.come (askedS 30 0 0) A 0 c logon1 0 V rfl (by decide) h (mz_in (k := 1) (q := 1) (by decide) (by decide))).mono fun e w' ⟨A, n, c, B, m, d, B', m', d', he, h1, h2, h2', h3, h4, h4', h5⟩ => by
        rw [start_logon (by omega) (by decide) (by decide) (by decide)] at he h1 h2 h2' h3
        obtain rfl : n = 0 := h1.symm
        obtain rfl : m = 0 := h2.symm
        obtain rfl : m' = 0 := h2'.symm
        exact ⟨A, c, B, d, B', d', he, h3, h5⟩))
    clear hbig
    go_enter Try.func3, Try.ntmps3
    go_wp2_with fail
    refine HA.out.mono ?_
    rintro e w1 ⟨rfl, hb1⟩
    have HB := Lib.hid hb1
    have HI := Lib.hid (RI.start w1)
    have HL0 := Lib.hid (s0.on hb1)
    have Hln := Lib.hid ln0
    clear hb1 HA s0 ln0
    go_upto_region 5 with (fail)
    clear hbb
    go_upto_region 6 with (first | (go_at_call 7; refine (H1.out _).mono ?_; rintro e w2 ⟨rfl, hb2⟩; have HI := Lib.hid (HI.out.on hb2); clear hb2) | (refine ri_put rfl 29 (.tmp 5) (.tmp 42) rfl (sesArr (newS 30) none 0 0) rfl rfl (HI.out.add 29 (sesArr zSes none 0 0)) rfl infoS (ses_one _ _ _ _) ?_; rintro w3 hI3 -; have HI := Lib.hid hI3; clear hI3))
    go_upto_region 7 with (first | (refine wpList_load_row rfl 29 (.tmp 5) rfl _ rfl 29 _ (0, 0) _ HI.out.bx Try.underlying29 rfl infoS ?_) | (go_at_call 8; refine (H2.out _).mono ?_; rintro e w4 ⟨A1, c1', B1, d1, rfl, hs1, hb3⟩; have HI := Lib.hid (HI.out.on hb3); have HS := Lib.hid hs1; clear hb3 hs1) | (refine ri_put rfl 29 (.tmp 5) (.tmp 47) rfl (sesArr (askedS 30 0 0) A1 0 c1') rfl rfl HI.out rfl infoS (ses_one _ _ _ _) ?_; rintro w5 hI3 -; have HI := Lib.hid hI3; clear hI3))
    go_upto_region 8 with (first | (refine wpList_load_row rfl 29 (.tmp 5) rfl _ rfl 29 _ (0, 0) _ HI.out.bx Try.underlying29 rfl infoS ?_) | (go_at_call 9; refine (H3.out _ _ _ HS.out.nilAny).mono ?_; rintro e w6 ⟨A2, c2, B2, d2, B2', d2', rfl, hs2, hb4⟩; have HI := Lib.hid (HI.out.on hb4); have HS := Lib.hid hs2; clear hb4 hs2) | (refine ri_put rfl 29 (.tmp 5) (.tmp 54) rfl (sesArr (onS 30 0 0) A2 0 c2) rfl rfl HI.out rfl infoS (ses_one _ _ _ _) ?_; rintro w7 hI3 -; have HI := Lib.hid hI3; clear hI3))
    clear H1 H2 H3
    go_upto_region 10 with (fail)
    go_upto_region 11 with (first | (refine ri_put rfl 39 (.tmp 13) (.tmp 69) rfl exF.arr rfl rfl (HI.out.add 39 _) rfl infoX10 (xarr_one exF) ?_; rintro w8 hI3 -; have HI := Lib.hid hI3.swap; clear hI3))
    have HF0 := Lib.hid (⟨⟨HI.out, ⟨rfl, .inl ⟨rfl, rfl⟩⟩, fun b hb => by
      simp only [List.mem_cons, List.not_mem_nil, or_false] at hb
      rcases hb with rfl | rfl
      · show (29 : Nat) ≠ 41; decide
      · show (39 : Nat) ≠ 41; decide⟩, rfl, HS.out.nilAny⟩ : FR w1 w2.heap.size w7.heap.size (onS 30 0 0) A2 0 c2 (.slice none 0 0) [] w8)
    have HP0 := Lib.hid (fill_start (n := (N0 : Int) + 2) (by omega))
    clear HI HS
    generalize w2.heap.size = g5 at *
    generalize w7.heap.size = gx at *
    go_wp2_with fail
    go_loopw [15, 16, 17] (fun s15 s16 s17 wr => ∃ (i : Nat) (s : Ses) (A : Option Addr) (n c : Nat) (v : Value) (L : List Mg) (k a o : Int) (hs : List Int) (cnt : Int), i ≤ N0 ∧ s17 = .int .i64 i ∧ s15 = .int .i64 cnt ∧ v = s16 ∧ Hid (P1 ((N0 : Int) + 2) ((i : Int) + 2) s k a o hs L) ∧ Hid (cnt = min k ((N0 : Int) + 2) - 2) ∧ Hid (FR w1 g5 gx s A n c v L wr)) (fun _ _ s17 _ => N0 - (intOf s17).toNat)
    case atStart => exact ⟨0, onS 30 0 0, A2, 0, c2, .slice none 0 0, [], 2, 0, 2, [], 0, Nat.zero_le _, rfl, rfl, rfl, HP0, Lib.hid (by omega), HF0⟩
    case round =>
      clear HP0 HF0
      obtain ⟨i, s, A, n, c, v, L, k, a, o, hs, cnt, hi, rfl, rfl, rfl, HP, HC, HF⟩ := hrel
      have hcb : 0 ≤ cnt ∧ cnt ≤ 60 := by have := HP.out.k2; have := HC.out; omega
      by_cases hlt : i < N0
      · have hil : i < l0.length := by rw [Hln.out]; exact hlt
        obtain ⟨b, off, rfl, hbc⟩ := (HL0.out.on HF.out.mj.ri.below).row.bool hil
        rcases hlb : l0[i] with _ | _
        · rw [hlb] at hbc
          clear hlb
          obtain ⟨s', said, told, k', a', o', hs', hce, hP', hct, -⟩ := HP.out.step (m := repM ((i : Int) + 2) false) (by omega) (by omega) (repM_right (by omega)) (.inl rfl) (repM_one (by omega)) rfl
          have HCo := Lib.hid (fun (V : World) (h : Sl V A n c 20 (icells s.ln.held)) => (show Calls Try.prog 9 #[.agg (sesArr s A n c), .agg (repM ((i : Int) + 2) false).arr, .int .i64 0] V (ComeAPost (s', said, told, false, 0) V) from by
            have h2 := C.comeA s A n c (repM ((i : Int) + 2) false) 0 V HF.out.hn (by have := held_right HP.out.fs.r; have := HF.out.hn; omega) h (rep_in (by omega))
            rw [hce] at h2
            exact h2))
          have HLn := Lib.hid (show (L ++ said).length ≤ 100 ∧ told.length ≤ 100 from ⟨by have := hP'.outlow; have := hP'.out; omega, by have := HP.out.k2; have := hP'.k2; omega⟩)
          have HP2 := Lib.hid hP'
          have HCt := Lib.hid hct
          have hwi : IntKind.i64.wrap ((i : Int) + 2) = (i : Int) + 2 := by rw [IntKind.wrap_i64]; omega
          clear hce hP' hct
          go_upto_region 19 with (first | (refine wpList_load_row rfl 29 (.tmp 5) rfl _ rfl 29 (sesArr s A n c) (0, 0) _ HF.out.mj.ri.bx Try.underlying29 rfl infoS ?_) | (refine wpList_load_row rfl 39 (.tmp 13) rfl _ rfl 39 exF.arr (0, 0) _ HF.out.mj.ri.swap.bx Try.underlying39 rfl infoX10 ?_) | (refine wpList_build_rep rfl (.tmp 87) (.tmp 88) rfl ((i : Int) + 2) rfl rfl ?_) | (go_at_call 9; refine (HCo.out _ HF.out.sl).mono ?_; rintro e w3 ⟨A3, n3, c3, B3, m3, d3, B4, m4, d4, hfr, rfl, hl1, hl2, hl3, hs1, hs2, -, hb3⟩; have HNe := Lib.hid (HF.out.mj.ne hfr); have HM3 := Lib.hid (HF.out.mj.on hb3); have HS3 := Lib.hid (show Sl w3 A3 n3 c3 20 (icells s'.ln.held) from hs1); have HSd3 := Lib.hid (show Sl w3 B3 m3 d3 18 (mcells said) from hs2); have HL1 := Lib.hid (show s'.ln.held.length = n3 from hl1); have HLen := Lib.hid (show said.length = m3 ∧ told.length = m4 ∧ (L ++ said).length ≤ 100 ∧ told.length ≤ 100 from ⟨hl2, hl3, HLn.out.1, HLn.out.2⟩); clear hfr hl1 hl2 hl3 hs1 hs2 hb3) | (refine ri_put rfl 29 (.tmp 18) (.tmp 91) rfl (sesArr s' A3 n3 c3) rfl rfl (HM3.out.add 29 (sesArr zSes none 0 0) (by decide)).ri rfl infoS (ses_one _ _ _ _) ?_; intro w5 hI5 hf5; have HM5 := Lib.hid ((HM3.out.add 29 (sesArr zSes none 0 0) (by decide)).put hI5 hf5); have HS5 := Lib.hid ((HS3.out.on ((Below.refl _ _).alloc (Nat.le_refl _) _)).farI (HM3.out.add 29 (sesArr zSes none 0 0) (by decide)).ri.bx (Nat.le_refl 10) hf5); have HSd5 := Lib.hid ((HSd3.out.on ((Below.refl _ _).alloc (Nat.le_refl _) _)).farM (HM3.out.add 29 (sesArr zSes none 0 0) (by decide)).ri.bx (Nat.le_refl 10) hf5); clear hI5 hf5))
          have hm4 : m4 ≤ 1000 := by have := HLen.out; omega
          have hwc : IntKind.i64.wrap (cnt + (m4 : Nat)) = cnt + (m4 : Nat) := by rw [IntKind.wrap_i64]; omega
          have HLm := Lib.hid (show L.length + m3 ≤ 1000 from by have h := HLen.out; rw [List.length_append] at h; omega)
          generalize w3.heap.size = gm at *
          have hMd := HM5.out.on (Below.refl _ _).drew
          have hSd := HSd5.out.on (Below.refl _ _).drew
          have hHd := HS5.out.on (Below.refl _ _).drew
          refine wp_region_held_drew (S := fun V => Box V gm 29 (sesArr s' A3 n3 c3)) (by kernel_rfl) hMd.ri.bx (fun hHeld => ?_)
          refine wpAnyH_take (i := 0) (v := .agg (sesArr s' A3 n3 c3)) (at_place rfl) (by kernel_rfl) (by kernel_rfl) (by kernel_rfl) (fun _ _ _ h => h) (y_load rfl (fun V hV => hV) 29 (.tmp 18) rfl rfl _ Try.underlying29 rfl infoS) hHeld ?_; try simp only [Act.put, List.setIfInBounds_toArray, List.set_cons_zero, List.set_cons_succ]
          refine wpAnyH_take (i := 1) (v := v) (at_place rfl) (by kernel_rfl) (by kernel_rfl) (by kernel_rfl) (fun _ _ _ h => h) (Or.inl ⟨by rfl, fun V hV => by go_simp⟩) hHeld ?_; try simp only [Act.put, List.setIfInBounds_toArray, List.set_cons_zero, List.set_cons_succ]
          refine wpAnyH_take (i := 2) (v := .slice B3 m3 d3) (at_place rfl) (by kernel_rfl) (by kernel_rfl) (by kernel_rfl) (fun _ _ _ h => h) (Or.inl ⟨by rfl, fun V hV => by go_simp⟩) hHeld ?_; try simp only [Act.put, List.setIfInBounds_toArray, List.set_cons_zero, List.set_cons_succ]
          refine wpAnyH_take (i := 4) (v := .int .i64 cnt) (at_place rfl) (by kernel_rfl) (by kernel_rfl) (by kernel_rfl) (fun _ _ _ h => h) (Or.inl ⟨by rfl, fun V hV => by go_simp⟩) hHeld ?_; try simp only [Act.put, List.setIfInBounds_toArray, List.set_cons_zero, List.set_cons_succ]
          refine wpAnyH_take (i := 5) (v := .slice B4 m4 d4) (at_place rfl) (by kernel_rfl) (by kernel_rfl) (by kernel_rfl) (fun _ _ _ h => h) (Or.inl ⟨by rfl, fun V hV => by go_simp⟩) hHeld ?_; try simp only [Act.put, List.setIfInBounds_toArray, List.set_cons_zero, List.set_cons_succ]
          refine wpAnyH_take (i := 6) (v := .int .i64 (m4 : Nat)) (at_place rfl) (by kernel_rfl) (by kernel_rfl) (by kernel_rfl) (fun _ _ _ h => h) (Or.inl ⟨by rfl, fun V hV => by go_simp⟩) hHeld ?_; try simp only [Act.put, List.setIfInBounds_toArray, List.set_cons_zero, List.set_cons_succ]
          refine wpAnyH_take (i := 7) (v := .int .i64 (cnt + (m4 : Nat))) (at_place rfl) (by kernel_rfl) (by kernel_rfl) (by kernel_rfl) (fun _ _ _ h => h) (Or.inl ⟨by rfl, fun V hV => by go_simp⟩) hHeld ?_; try simp only [Act.put, List.setIfInBounds_toArray, List.set_cons_zero, List.set_cons_succ]
          refine wpAnyH_ready (rs := [3]) (by kernel_rfl) (by simp) ?_
          refine AllReadyH.cons (at_place rfl) (fun K hK => ?_) AllReadyH.nil
          refine step_app2 rfl (.tmp 97) (.tmp 98) rfl rfl hMd said rfl hSd HLm.out ?_
          intro v' w6 hM6 hk6
          have hHe := hHd.keepB HNe.out hk6
          refine hK.out _ _ hM6.ri.bx (fun hHeld => ?_)
          clear hK K
          try simp only [Act.put, List.setIfInBounds_toArray, List.set_cons_zero, List.set_cons_succ]
          refine wpAnyH_ready (rs := [8]) (by kernel_rfl) (by simp) ?_
          refine AllReadyH.cons (at_place rfl) (fun K hK => ?_) AllReadyH.nil
          refine step_put rfl 29 (.tmp 5) (.tmp 96) rfl (sesArr s' A3 n3 c3) rfl rfl hM6.swap.ri rfl infoS (ses_one _ _ _ _) ?_
          intro w7 hI7 hf7
          have hM7 := (hM6.swap.put hI7 hf7).swap
          have hH7 := hHe.farI hM6.swap.ri.bx (Nat.le_refl 10) hf7
          refine hK.out _ _ hM7.ri.bx (fun hHeld => ?_)
          clear hK K
          try simp only [Act.put]
          refine wpAnyH_take (i := 9) (v := v') (at_place rfl) (by kernel_rfl) (by kernel_rfl) (by kernel_rfl) (fun _ _ _ h => h) (Or.inl ⟨by rfl, fun V hV => by go_simp⟩) hHeld ?_; try simp only [Act.put, List.setIfInBounds_toArray, List.set_cons_zero, List.set_cons_succ]
          refine wpAnyH_take (i := 10) (v := .int .i64 (cnt + (m4 : Nat))) (at_place rfl) (by kernel_rfl) (by kernel_rfl) (by kernel_rfl) (fun _ _ _ h => h) (Or.inl ⟨by rfl, fun V hV => by go_simp⟩) hHeld ?_; try simp only [Act.put, List.setIfInBounds_toArray, List.set_cons_zero, List.set_cons_succ]
          refine wpAnyH_done (by kernel_rfl) ?_ _
          have HFR2 := Lib.hid (⟨hM7.tail, HL1.out, hH7⟩ : FR w1 g5 gx s' A3 n3 c3 v' (L ++ said) w7)
          clear hMd hSd hHd hM6 hHe hM7 hH7 hI7 hf7 hk6 hHeld
          go_wp2_with fail
          go_roundw
          case rel => exact ⟨i + 1, s', A3, n3, c3, v', L ++ said, k', a', o', hs', cnt + (m4 : Nat), by omega, by go_num, rfl, rfl, by have := HP2.out; rw [show ((i + 1 : Nat) : Int) + 2 = (i : Int) + 2 + 1 by omega]; exact Lib.hid this, Lib.hid (by have h1 := HCt.out; have h2 := HC.out; have h3 := HLen.out.2.1; omega), HFR2⟩
          case measure => simp [intOf]; omega
        · rw [hlb] at hbc
          clear hlb
          go_wp2_with fail
          go_roundw
          case rel => exact ⟨i + 1, s, A, n, c, v, L, k, a, o, hs, cnt, by omega, by go_num, rfl, rfl, by have := HP.out.skip; rw [show ((i + 1 : Nat) : Int) + 2 = (i : Int) + 2 + 1 by omega]; exact Lib.hid this, HC, HF⟩
          case measure => simp [intOf]; omega
      · obtain rfl : N0 = i := by omega
        obtain ⟨s', said, told, k', a', o', hs', hce, hP', hct, hor⟩ := HP.out.step (m := lastM ((N0 : Int) + 2)) (by omega) (by omega) (lastM_right (by omega)) (.inr rfl) (lastM_one (by omega)) rfl
        have HP2 := Lib.hid (hP'.last hor)
        have HCo := Lib.hid (fun (V : World) (h : Sl V A n c 20 (icells s.ln.held)) => (show Calls Try.prog 9 #[.agg (sesArr s A n c), .agg (lastM ((N0 : Int) + 2)).arr, .int .i64 0] V (ComeAPost (s', said, told, false, 0) V) from by
          have h2 := C.comeA s A n c (lastM ((N0 : Int) + 2)) 0 V HF.out.hn (by have := held_right HP.out.fs.r; have := HF.out.hn; omega) h (mz_in (k := 2) (q := (N0 : Int) + 2) (by decide) (by omega))
          rw [hce] at h2
          exact h2))
        have HLn := Lib.hid (show (L ++ said).length ≤ 100 ∧ told.length ≤ 100 from ⟨by have := hP'.outlow; have := hP'.out; omega, by have := HP.out.k2; have := hP'.k2; omega⟩)
        have HCt := Lib.hid hct
        clear hce hP' hct hor hlt
        go_upto_region 21 with (first | (refine wpList_load_row rfl 29 (.tmp 5) rfl _ rfl 29 (sesArr s A n c) (0, 0) _ HF.out.mj.ri.bx Try.underlying29 rfl infoS ?_) | (go_at_call 9; refine (HCo.out _ HF.out.sl).mono ?_; rintro e w3 ⟨A3, n3, c3, B3, m3, d3, B4, m4, d4, hfr, rfl, hl1, hl2, hl3, hs1, hs2, -, hb3⟩; have HNe := Lib.hid (HF.out.mj.ne hfr); have HM3 := Lib.hid (HF.out.mj.on hb3); have HS3 := Lib.hid (show Sl w3 A3 n3 c3 20 (icells s'.ln.held) from hs1); have HSd3 := Lib.hid (show Sl w3 B3 m3 d3 18 (mcells said) from hs2); have HL1 := Lib.hid (show s'.ln.held.length = n3 from hl1); have HLen := Lib.hid (show said.length = m3 ∧ told.length = m4 ∧ (L ++ said).length ≤ 100 ∧ told.length ≤ 100 from ⟨hl2, hl3, HLn.out.1, HLn.out.2⟩); clear hfr hl1 hl2 hl3 hs1 hs2 hb3) | (refine ri_put rfl 29 (.tmp 23) (.tmp 109) rfl (sesArr s' A3 n3 c3) rfl rfl (HM3.out.add 29 (sesArr zSes none 0 0) (by decide)).ri rfl infoS (ses_one _ _ _ _) ?_; intro w5 hI5 hf5; have HM5 := Lib.hid ((HM3.out.add 29 (sesArr zSes none 0 0) (by decide)).put hI5 hf5); have HS5 := Lib.hid ((HS3.out.on ((Below.refl _ _).alloc (Nat.le_refl _) _)).farI (HM3.out.add 29 (sesArr zSes none 0 0) (by decide)).ri.bx (Nat.le_refl 10) hf5); have HSd5 := Lib.hid ((HSd3.out.on ((Below.refl _ _).alloc (Nat.le_refl _) _)).farM (HM3.out.add 29 (sesArr zSes none 0 0) (by decide)).ri.bx (Nat.le_refl 10) hf5); clear hI5 hf5))
        have hm4 : m4 ≤ 1000 := by have := HLen.out; omega
        have hwc : IntKind.i64.wrap (cnt + (m4 : Nat)) = cnt + (m4 : Nat) := by rw [IntKind.wrap_i64]; omega
        have HLm := Lib.hid (show L.length + m3 ≤ 1000 from by have h := HLen.out; rw [List.length_append] at h; omega)
        generalize w3.heap.size = gm at *
        have hMd := HM5.out.on (Below.refl _ _).drew
        have hSd := HSd5.out.on (Below.refl _ _).drew
        have hHd := HS5.out.on (Below.refl _ _).drew
        refine wp_region_held_drew (S := fun V => Box V gm 29 (sesArr s' A3 n3 c3)) (by kernel_rfl) hMd.ri.bx (fun hHeld => ?_)
        refine wpAnyH_take (i := 0) (v := .agg (sesArr s' A3 n3 c3)) (at_place rfl) (by kernel_rfl) (by kernel_rfl) (by kernel_rfl) (fun _ _ _ h => h) (y_load rfl (fun V hV => hV) 29 (.tmp 23) rfl rfl _ Try.underlying29 rfl infoS) hHeld ?_; try simp only [Act.put, List.setIfInBounds_toArray, List.set_cons_zero, List.set_cons_succ]
        refine wpAnyH_take (i := 1) (v := v) (at_place rfl) (by kernel_rfl) (by kernel_rfl) (by kernel_rfl) (fun _ _ _ h => h) (Or.inl ⟨by rfl, fun V hV => by go_simp⟩) hHeld ?_; try simp only [Act.put, List.setIfInBounds_toArray, List.set_cons_zero, List.set_cons_succ]
        refine wpAnyH_take (i := 2) (v := .slice B3 m3 d3) (at_place rfl) (by kernel_rfl) (by kernel_rfl) (by kernel_rfl) (fun _ _ _ h => h) (Or.inl ⟨by rfl, fun V hV => by go_simp⟩) hHeld ?_; try simp only [Act.put, List.setIfInBounds_toArray, List.set_cons_zero, List.set_cons_succ]
        refine wpAnyH_take (i := 4) (v := .int .i64 cnt) (at_place rfl) (by kernel_rfl) (by kernel_rfl) (by kernel_rfl) (fun _ _ _ h => h) (Or.inl ⟨by rfl, fun V hV => by go_simp⟩) hHeld ?_; try simp only [Act.put, List.setIfInBounds_toArray, List.set_cons_zero, List.set_cons_succ]
        refine wpAnyH_take (i := 5) (v := .slice B4 m4 d4) (at_place rfl) (by kernel_rfl) (by kernel_rfl) (by kernel_rfl) (fun _ _ _ h => h) (Or.inl ⟨by rfl, fun V hV => by go_simp⟩) hHeld ?_; try simp only [Act.put, List.setIfInBounds_toArray, List.set_cons_zero, List.set_cons_succ]
        refine wpAnyH_take (i := 6) (v := .int .i64 (m4 : Nat)) (at_place rfl) (by kernel_rfl) (by kernel_rfl) (by kernel_rfl) (fun _ _ _ h => h) (Or.inl ⟨by rfl, fun V hV => by go_simp⟩) hHeld ?_; try simp only [Act.put, List.setIfInBounds_toArray, List.set_cons_zero, List.set_cons_succ]
        refine wpAnyH_take (i := 7) (v := .int .i64 (cnt + (m4 : Nat))) (at_place rfl) (by kernel_rfl) (by kernel_rfl) (by kernel_rfl) (fun _ _ _ h => h) (Or.inl ⟨by rfl, fun V hV => by go_simp⟩) hHeld ?_; try simp only [Act.put, List.setIfInBounds_toArray, List.set_cons_zero, List.set_cons_succ]
        refine wpAnyH_ready (rs := [3]) (by kernel_rfl) (by simp) ?_
        refine AllReadyH.cons (at_place rfl) (fun K hK => ?_) AllReadyH.nil
        refine step_app2 rfl (.tmp 115) (.tmp 116) rfl rfl hMd said rfl hSd HLm.out ?_
        intro v' w6 hM6 hk6
        have hHe := hHd.keepB HNe.out hk6
        refine hK.out _ _ hM6.ri.bx (fun hHeld => ?_)
        clear hK K
        try simp only [Act.put, List.setIfInBounds_toArray, List.set_cons_zero, List.set_cons_succ]
        refine wpAnyH_ready (rs := [8]) (by kernel_rfl) (by simp) ?_
        refine AllReadyH.cons (at_place rfl) (fun K hK => ?_) AllReadyH.nil
        refine step_put rfl 29 (.tmp 5) (.tmp 114) rfl (sesArr s' A3 n3 c3) rfl rfl hM6.swap.ri rfl infoS (ses_one _ _ _ _) ?_
        intro w7 hI7 hf7
        have hM7 := (hM6.swap.put hI7 hf7).swap
        have hH7 := hHe.farI hM6.swap.ri.bx (Nat.le_refl 10) hf7
        refine hK.out _ _ hM7.ri.bx (fun hHeld => ?_)
        clear hK K
        try simp only [Act.put]
        refine wpAnyH_take (i := 9) (v := v') (at_place rfl) (by kernel_rfl) (by kernel_rfl) (by kernel_rfl) (fun _ _ _ h => h) (Or.inl ⟨by rfl, fun V hV => by go_simp⟩) hHeld ?_; try simp only [Act.put, List.setIfInBounds_toArray, List.set_cons_zero, List.set_cons_succ]
        refine wpAnyH_take (i := 10) (v := .int .i64 (cnt + (m4 : Nat))) (at_place rfl) (by kernel_rfl) (by kernel_rfl) (by kernel_rfl) (fun _ _ _ h => h) (Or.inl ⟨by rfl, fun V hV => by go_simp⟩) hHeld ?_; try simp only [Act.put, List.setIfInBounds_toArray, List.set_cons_zero, List.set_cons_succ]
        refine wpAnyH_done (by kernel_rfl) ?_ _
        have HFR2 := Lib.hid (⟨hM7.tail, HL1.out, hH7⟩ : FR w1 g5 gx s' A3 n3 c3 v' (L ++ said) w7)
        clear hMd hSd hHd hM6 hHe hM7 hH7 hI7 hf7 hk6 hHeld
        have HC2 := Lib.hid (show cnt + (m4 : Nat) = min k' ((N0 : Int) + 2) - 2 from by have h1 := HCt.out; have h2 := HC.out; have h3 := HLen.out.2.1; omega)
        clear HP HC HF HCo HLn HCt HLen HLm hcb
        go_wp2_with fail
        go_loopw [15, 16, 28] (fun s15 s16 s28 wr => ∃ (j : Nat) (s : Ses) (A : Option Addr) (n c : Nat) (v : Value) (L : List Mg) (k a o : Int) (hs : List Int) (cnt : Int), s28 = .int .i64 j ∧ s15 = .int .i64 cnt ∧ v = s16 ∧ Hid (P2 ((N0 : Int) + 2) j s k a o hs L) ∧ Hid (cnt = min k ((N0 : Int) + 2) - 2) ∧ Hid (FR w1 g5 gx s A n c v L wr)) (fun _ _ s28 _ => 100 - (intOf s28).toNat)
        case atStart => exact ⟨0, s', A3, n3, c3, v', L ++ said, k', a', o', hs', _, rfl, rfl, rfl, HP2, HC2, HFR2⟩
        case round =>
          clear HP2 HC2 HFR2
          obtain ⟨j, s, A, n, c, v, L, k, a, o, hs, cnt, rfl, rfl, rfl, HP, HC, HF⟩ := hrel
          have hlens := HP.out.lens (by omega)
          have hcb : 0 ≤ cnt ∧ cnt ≤ 60 := by have := HC.out; omega
          obtain ⟨Av, cv, hv, hvl, hvc⟩ := own_cap HF.out.mj.own
          subst hv
          obtain ⟨lv, hlv⟩ : ∃ x, L.length = x := ⟨_, rfl⟩
          rw [hlv] at HF hvl hlens ⊢
          have HLv := Lib.hid hlv
          clear hlv
          rcases HP.out.asks with ⟨e1, e2, e3⟩ | ⟨hd, r, m, e1, hmem, ha, hlen, hget, hask⟩
          · obtain rfl : lv = j := by rw [← HLv.out]; exact e3
            have hn0 : n = 0 := by
              have h1 := congrArg List.length (HP.out.fs.ln.held.trans e1)
              have h2 := HF.out.hn
              simp [frs] at h1
              rw [h1] at h2
              exact h2.symm
            subst hn0
            have f1 := (HF.out.mj.ri.cell 1).trans (show _ = some (Value.int .i64 ((N0 : Int) + 2 + 1)) from congrArg (fun z => some (Value.int .i64 z)) (HP.out.fs.ln.next.trans e2))
            have f2 := (HF.out.mj.ri.cell 2).trans (show _ = some (Value.slice A 0 c) from rfl)
            have hw3 : IntKind.i64.wrap ((N0 : Int) + 2 + 1) = (N0 : Int) + 2 + 1 := by rw [IntKind.wrap_i64]; omega
            obtain rfl : cnt = (N0 : Int) := by have := HC.out; omega
            clear e1 e2 e3
            go_wp2
            go_ret
            exact ⟨rfl, HB.out.trans (HF.out.mj.ri.below.mono HB.out.size)⟩
          · subst e1
            have hbt := HP.out.batch hmem ha hlen hask
            obtain ⟨hk4, hma, hmb⟩ := hask
            obtain rfl : lv = j + 1 := by rw [← HLv.out]; exact hlen
            obtain ⟨b, off, rfl, f0, f4, f5⟩ := HF.out.msg HLv.out hget
            rw [hk4] at f0
            rw [hma] at f4
            rw [hmb] at f5
            have HBS := Lib.hid (show BS ((N0 : Int) + 2) j a hd r k s L cnt from .inl ⟨o, hbt.1, hbt.2.1, HC.out⟩)
            have hka := hbt.2
            have HG := Lib.hid hget
            have hwb : IntKind.i64.wrap (a - k) = a - k := by rw [IntKind.wrap_i64]; omega
            have hd9 : decide ((9 : Int) < a - k) = false := decide_eq_false (by omega)
            have hd1 : decide (k < 1) = false := decide_eq_false (by omega)
            have hd2 : decide ((j : Int) < 200) = true := decide_eq_true (by omega)
            have hij : (j : Int) < ((j + 1 : Nat) : Int) := by omega
            have hdj : decide ((j : Int) < ((j + 1 : Nat) : Int)) = true := decide_eq_true hij
            have hj0 : (0 : Int) ≤ (j : Int) := by omega
            have Hmb := Lib.hid hmb
            clear hbt hk4 hma hmb hmem ha hlen hget HP HC
            go_upto_region 25 with (fail)
            go_quiet (fail)
            have HFq := Lib.hid (HF.out.on (below_dn (Below.refl _ _) nq))
            go_wp2_with fail
            go_loopw [15, 16, 29] (fun s15 s16 s29 wr => ∃ (q : Int) (s : Ses) (A : Option Addr) (n c : Nat) (v : Value) (L : List Mg) (cnt : Int), s29 = .int .i64 q ∧ s15 = .int .i64 cnt ∧ v = s16 ∧ (k ≤ q ∧ q ≤ a + 1) ∧ Hid (L[j]? = some m) ∧ Hid (BS ((N0 : Int) + 2) j a hd r q s L cnt) ∧ Hid (FR w1 g5 gx s A n c v L wr)) (fun _ _ s29 _ => (a + 1 - intOf s29).toNat)
            case atStart => exact ⟨k, s, A, n, c, _, L, cnt, rfl, rfl, rfl, ⟨by omega, by omega⟩, HG, HBS, HFq⟩
            case round =>
              clear HG HBS HFq HF f0 f4 f5 hd9 hd1 hd2 hij hdj hwb hcb
              obtain ⟨q, s, A, n, c, v, L, cnt, rfl, rfl, rfl, hqb, HG, HS, HF⟩ := hrel
              have hlen2 := HS.out.lens (by omega)
              have hcb : 0 ≤ cnt ∧ cnt ≤ 60 := ⟨hlen2.2.1, hlen2.2.2.1⟩
              have HR := Lib.hid hlen2.2.2.2
              have hl63 := hlen2.1
              clear hlen2
              obtain ⟨Av, cv2, hv, hvl2, hvc2⟩ := own_cap HF.out.mj.own
              subst hv
              obtain ⟨lv, hlv⟩ : ∃ x, L.length = x := ⟨_, rfl⟩
              have hjL : j < L.length := (List.getElem?_eq_some_iff.1 HG.out).1
              rw [hlv] at HF hvl2 hl63 hjL ⊢
              have HLv := Lib.hid hlv
              clear hlv
              obtain ⟨b2, off2, rfl, -, -, f5⟩ := HF.out.msg HLv.out HG.out
              rw [Hmb.out] at f5
              have hij : (j : Int) < (lv : Int) := by omega
              by_cases hqa : q ≤ a
              · have hqd : decide (q ≤ a) = true := decide_eq_true hqa
                obtain ⟨s', said, told, hce, hBS', hq1, hq2⟩ := HS.out.step (by omega) hqa
                have HCo := Lib.hid (fun (V : World) (h : Sl V A n c 20 (icells s.ln.held)) => (show Calls Try.prog 9 #[.agg (sesArr s A n c), .agg (repM q true).arr, .int .i64 0] V (ComeAPost (s', said, told, false, 0) V) from by
                  have h2 := C.comeA s A n c (repM q true) 0 V HF.out.hn (by have := held_right HR.out; have := HF.out.hn; omega) h (rep_in (by omega))
                  rw [hce] at h2
                  exact h2))
                have HLn := Lib.hid (show (L ++ said).length ≤ 100 ∧ told.length ≤ 100 from by have h := hBS'.lens (by omega); exact ⟨by omega, by omega⟩)
                have HB2 := Lib.hid hBS'
                have hwq : IntKind.i64.wrap (q + 1) = q + 1 := by rw [IntKind.wrap_i64]; omega
                clear hce hBS'
                go_upto_region 30 with (fail)
                clear f5 hij hqd
                generalize hv3 : (Value.slice (some ⟨b2, off2, none⟩) lv cv2) = v at *
                clear hv3
                go_upto_region 33 with (first | (refine wpList_load_row rfl 29 (.tmp 5) rfl _ rfl 29 (sesArr s A n c) (0, 0) _ HF.out.mj.ri.bx Try.underlying29 rfl infoS ?_) | (refine wpList_load_row rfl 39 (.tmp 13) rfl _ rfl 39 exF.arr (0, 0) _ HF.out.mj.ri.swap.bx Try.underlying39 rfl infoX10 ?_) | (refine wpList_build_repC rfl (.tmp 176) (.tmp 177) rfl q rfl rfl ?_) | (go_at_call 9; refine (HCo.out _ HF.out.sl).mono ?_; rintro e w3 ⟨A3, n3, c3, B3, m3, d3, B4, m4, d4, hfr, rfl, hl1, hl2, hl3, hs1, hs2, -, hb3⟩; have HNe := Lib.hid (HF.out.mj.ne hfr); have HM3 := Lib.hid (HF.out.mj.on hb3); have HS3 := Lib.hid (show Sl w3 A3 n3 c3 20 (icells s'.ln.held) from hs1); have HSd3 := Lib.hid (show Sl w3 B3 m3 d3 18 (mcells said) from hs2); have HL1 := Lib.hid (show s'.ln.held.length = n3 from hl1); have HLen := Lib.hid (show said.length = m3 ∧ told.length = m4 ∧ (L ++ said).length ≤ 100 ∧ told.length ≤ 100 from ⟨hl2, hl3, HLn.out.1, HLn.out.2⟩); clear hfr hl1 hl2 hl3 hs1 hs2 hb3) | (refine ri_put rfl 29 (.tmp 30) (.tmp 180) rfl (sesArr s' A3 n3 c3) rfl rfl (HM3.out.add 29 (sesArr zSes none 0 0) (by decide)).ri rfl infoS (ses_one _ _ _ _) ?_; intro w5 hI5 hf5; have HM5 := Lib.hid ((HM3.out.add 29 (sesArr zSes none 0 0) (by decide)).put hI5 hf5); have HS5 := Lib.hid ((HS3.out.on ((Below.refl _ _).alloc (Nat.le_refl _) _)).farI (HM3.out.add 29 (sesArr zSes none 0 0) (by decide)).ri.bx (Nat.le_refl 10) hf5); have HSd5 := Lib.hid ((HSd3.out.on ((Below.refl _ _).alloc (Nat.le_refl _) _)).farM (HM3.out.add 29 (sesArr zSes none 0 0) (by decide)).ri.bx (Nat.le_refl 10) hf5); clear hI5 hf5))
                have hm4 : m4 ≤ 1000 := by have := HLen.out; omega
                have hwc : IntKind.i64.wrap (cnt + (m4 : Nat)) = cnt + (m4 : Nat) := by rw [IntKind.wrap_i64]; omega
                have HLm := Lib.hid (show L.length + m3 ≤ 1000 from by have h := HLen.out; rw [List.length_append] at h; omega)
                generalize w3.heap.size = gm at *
                have hMd := HM5.out.on (Below.refl _ _).drew
                have hSd := HSd5.out.on (Below.refl _ _).drew
                have hHd := HS5.out.on (Below.refl _ _).drew
                refine wp_region_held_drew (S := fun V => Box V gm 29 (sesArr s' A3 n3 c3)) (by kernel_rfl) hMd.ri.bx (fun hHeld => ?_)
                refine wpAnyH_take (i := 0) (v := .agg (sesArr s' A3 n3 c3)) (at_place rfl) (by kernel_rfl) (by kernel_rfl) (by kernel_rfl) (fun _ _ _ h => h) (y_load rfl (fun V hV => hV) 29 (.tmp 30) rfl rfl _ Try.underlying29 rfl infoS) hHeld ?_; try simp only [Act.put, List.setIfInBounds_toArray, List.set_cons_zero, List.set_cons_succ]
                refine wpAnyH_take (i := 1) (v := v) (at_place rfl) (by kernel_rfl) (by kernel_rfl) (by kernel_rfl) (fun _ _ _ h => h) (Or.inl ⟨by rfl, fun V hV => by go_simp⟩) hHeld ?_; try simp only [Act.put, List.setIfInBounds_toArray, List.set_cons_zero, List.set_cons_succ]
                refine wpAnyH_take (i := 2) (v := .slice B3 m3 d3) (at_place rfl) (by kernel_rfl) (by kernel_rfl) (by kernel_rfl) (fun _ _ _ h => h) (Or.inl ⟨by rfl, fun V hV => by go_simp⟩) hHeld ?_; try simp only [Act.put, List.setIfInBounds_toArray, List.set_cons_zero, List.set_cons_succ]
                refine wpAnyH_take (i := 4) (v := .int .i64 cnt) (at_place rfl) (by kernel_rfl) (by kernel_rfl) (by kernel_rfl) (fun _ _ _ h => h) (Or.inl ⟨by rfl, fun V hV => by go_simp⟩) hHeld ?_; try simp only [Act.put, List.setIfInBounds_toArray, List.set_cons_zero, List.set_cons_succ]
                refine wpAnyH_take (i := 5) (v := .slice B4 m4 d4) (at_place rfl) (by kernel_rfl) (by kernel_rfl) (by kernel_rfl) (fun _ _ _ h => h) (Or.inl ⟨by rfl, fun V hV => by go_simp⟩) hHeld ?_; try simp only [Act.put, List.setIfInBounds_toArray, List.set_cons_zero, List.set_cons_succ]
                refine wpAnyH_take (i := 6) (v := .int .i64 (m4 : Nat)) (at_place rfl) (by kernel_rfl) (by kernel_rfl) (by kernel_rfl) (fun _ _ _ h => h) (Or.inl ⟨by rfl, fun V hV => by go_simp⟩) hHeld ?_; try simp only [Act.put, List.setIfInBounds_toArray, List.set_cons_zero, List.set_cons_succ]
                refine wpAnyH_take (i := 7) (v := .int .i64 (cnt + (m4 : Nat))) (at_place rfl) (by kernel_rfl) (by kernel_rfl) (by kernel_rfl) (fun _ _ _ h => h) (Or.inl ⟨by rfl, fun V hV => by go_simp⟩) hHeld ?_; try simp only [Act.put, List.setIfInBounds_toArray, List.set_cons_zero, List.set_cons_succ]
                refine wpAnyH_ready (rs := [3]) (by kernel_rfl) (by simp) ?_
                refine AllReadyH.cons (at_place rfl) (fun K hK => ?_) AllReadyH.nil
                refine step_app2 rfl (.tmp 188) (.tmp 189) rfl rfl hMd said rfl hSd HLm.out ?_
                intro v' w6 hM6 hk6
                have hHe := hHd.keepB HNe.out hk6
                refine hK.out _ _ hM6.ri.bx (fun hHeld => ?_)
                clear hK K
                try simp only [Act.put, List.setIfInBounds_toArray, List.set_cons_zero, List.set_cons_succ]
                refine wpAnyH_ready (rs := [8]) (by kernel_rfl) (by simp) ?_
                refine AllReadyH.cons (at_place rfl) (fun K hK => ?_) AllReadyH.nil
                refine step_put rfl 29 (.tmp 5) (.tmp 187) rfl (sesArr s' A3 n3 c3) rfl rfl hM6.swap.ri rfl infoS (ses_one _ _ _ _) ?_
                intro w7 hI7 hf7
                have hM7 := (hM6.swap.put hI7 hf7).swap
                have hH7 := hHe.farI hM6.swap.ri.bx (Nat.le_refl 10) hf7
                refine hK.out _ _ hM7.ri.bx (fun hHeld => ?_)
                clear hK K
                try simp only [Act.put]
                refine wpAnyH_take (i := 9) (v := v') (at_place rfl) (by kernel_rfl) (by kernel_rfl) (by kernel_rfl) (fun _ _ _ h => h) (Or.inl ⟨by rfl, fun V hV => by go_simp⟩) hHeld ?_; try simp only [Act.put, List.setIfInBounds_toArray, List.set_cons_zero, List.set_cons_succ]
                refine wpAnyH_take (i := 10) (v := .int .i64 (cnt + (m4 : Nat))) (at_place rfl) (by kernel_rfl) (by kernel_rfl) (by kernel_rfl) (fun _ _ _ h => h) (Or.inl ⟨by rfl, fun V hV => by go_simp⟩) hHeld ?_; try simp only [Act.put, List.setIfInBounds_toArray, List.set_cons_zero, List.set_cons_succ]
                refine wpAnyH_done (by kernel_rfl) ?_ _
                have HFR2 := Lib.hid (⟨hM7.tail, HL1.out, hH7⟩ : FR w1 g5 gx s' A3 n3 c3 v' (L ++ said) w7)
                clear hMd hSd hHd hM6 hHe hM7 hH7 hI7 hf7 hk6 hHeld
                go_wp2_with fail
                go_roundw
                case rel => exact ⟨q + 1, s', A3, n3, c3, v', L ++ said, cnt + (m4 : Nat), by go_num, rfl, rfl, ⟨by omega, by omega⟩, Lib.hid (get_app HG.out), by have h := HB2.out; rw [HLen.out.2.1] at h; exact Lib.hid h, HFR2⟩
                case measure => simp [intOf]; omega
              · have hqd : decide (q ≤ a) = false := decide_eq_false hqa
                rcases HS.out with ⟨o2, p2, hle, _⟩ | ⟨hqe, k2, a2, o2, hs2, hp2, hc2⟩
                · exact absurd hle hqa
                · have HP2 := Lib.hid hp2
                  have HC2 := Lib.hid hc2
                  clear hp2 hc2
                  go_wp2_with fail
                  go_roundw
                  case rel => exact ⟨j + 1, s, A, n, c, _, L, k2, a2, o2, hs2, cnt, by go_num, rfl, rfl, HP2, HC2, HF⟩
                  case measure => simp [intOf]; omega
end Go.Proofs.Ytblkdmbkkimbpaa
