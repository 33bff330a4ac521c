/-
  Layer 7's laws: SessLost.
-/
import Derived.Test.YtblkdmbkkimbpaaLaw07
namespace Go.Proofs.Ytblkdmbkkimbpaa
open Go.RowKit

theorem cntK_take {k : Int} (l : List Mg) (j : Nat) (hj : j < l.length) : cntK k (l.take (j + 1)) = cntK k (l.take j) + (if l[j].kind = k then 1 else 0) := by
  unfold cntK
  rw [List.take_succ_eq_append_getElem hj, List.filter_append, List.length_append]
  congr 1
  by_cases h : l[j].kind = k
  · rw [if_pos h]; simp [h]
  · rw [if_neg h]; simp [h]
theorem cntK_le (k : Int) (l : List Mg) : cntK k l ≤ l.length := List.length_filter_le ..
set_option maxRecDepth 100000 in
set_option maxHeartbeats 4000000 in
theorem walk_SessLost (C : SessC) (a0 : Int) (l0 : 0 ≤ a0) (u0 : a0 ≤ 255) (a1 : Int) (l1 : 0 ≤ a1) (u1 : a1 ≤ 255) (W : World) (_ : True) :
    Calls Try.prog 4 #[.int .u8 a0, .int .u8 a1] W fun e W' => e = .returned (.bool true) ∧ Below W.heap.size W W' := by
  obtain ⟨q, hq⟩ : ∃ q : Nat, a0 % 20 = (q : Int) := ⟨(a0 % 20).toNat, by omega⟩
  have hq19 : q ≤ 19 := by omega
  have hn : 1 ≤ (q : Int) + 1 ∧ (q : Int) + 1 ≤ 20 := by omega
  have HA := Lib.hid (awake07 C W)
  have H1 := Lib.hid (fun V : World => C.new ((q : Int) + 1) V (by omega) (by omega))
  have H2 := Lib.hid (fun (V : World) => (show Calls Try.prog 8 #[.agg (sesArr (newS ((q : Int) + 1)) none 0 0), .int .i64 0] V (fun e w' => ∃ A c B d, e = .returned (.tuple #[.agg (sesArr (askedS ((q : Int) + 1) 0 0) A 0 c), .slice B 1 d, .int .i64 0]) ∧ Sl w' A 0 c 20 [] ∧ Below V.heap.size V w') from
    (C.connect (newS ((q : Int) + 1)) none 0 0 0 V rfl (by decide) (Sl.none_ _ _)).mono fun e w' ⟨A, n, c, B, m, d, he, h1, h2, h3, h4, h5⟩ => by
      rw [start_connect (by omega) (by decide)] at he h1 h2 h3 h4
      obtain rfl : n = 0 := h1.symm
      obtain rfl : m = 1 := h2.symm
      exact ⟨A, c, B, d, he, h3, h5⟩))
  have H3 := Lib.hid (fun (A : Option Addr) (c : Nat) (V : World) (h : Sl V A 0 c 20 []) => (show Calls Try.prog 9 #[.agg (sesArr (askedS ((q : Int) + 1) 0 0) A 0 c), .agg logon1.arr, .int .i64 0] V (fun e w' => ∃ A c B d B' d', e = .returned (.tuple #[.agg (sesArr (onS ((q : Int) + 1) 0 0) A 0 c), .slice B 0 d, .slice B' 0 d', .bool false, .int .i64 0]) ∧ Sl w' A 0 c 20 [] ∧ Below V.heap.size V w') from
    (C.come (askedS ((q : Int) + 1) 0 0) A 0 c logon1 0 V rfl (by decide) h (mz_in (k := 1) (q := 1) (by decide) (by decide))).mono fun e w' ⟨A, n, c, B, m, d, B', m', d', he, h1, h2, h2', h3, h4, h4', h5⟩ => by
      rw [start_logon (by omega) (by decide) (by decide) (by decide)] at he h1 h2 h2' h3
      obtain rfl : n = 0 := h1.symm
      obtain rfl : m = 0 := h2.symm
      obtain rfl : m' = 0 := h2'.symm
      exact ⟨A, c, B, d, B', d', he, h3, h5⟩))
  have HT := Lib.hid (fun (T : Nat) (s : Ses) (hl : LS ((q : Int) + 1) ((T : Int) - 1) s) (h1 : 1 ≤ T ∧ (T : Int) < 3 * ((q : Int) + 1)) => (show ∃ s' said, LS ((q : Int) + 1) (T : Int) s' ∧ cntK 3 said = (if (T : Int) = 2 * ((q : Int) + 1) then 1 else 0) ∧ ((T : Int) = (q : Int) + 1 → 1 ≤ cntK 2 said) ∧ said.length ≤ 2 ∧ ∀ (A : Option Addr) (c : Nat) (V : World), Sl V A 0 c 20 [] → Calls Try.prog 10 #[.agg (sesArr s A 0 c), .int .i64 (T : Nat)] V (fun e w' => ∃ A c B d, e = .returned (.tuple #[.agg (sesArr s' A 0 c), .slice B said.length d, .int .i64 0]) ∧ Sl w' A 0 c 20 [] ∧ Sl w' B said.length d 18 (mcells said) ∧ Below V.heap.size V w') from by
    obtain ⟨s', said, e1, e2, e3, e4, e5⟩ := lost_step hl hn (by omega)
    rw [show (T : Int) - 1 + 1 = (T : Int) by omega] at e1 e2 e3 e4
    refine ⟨s', said, e2, e3, e4, e5, fun A c V h => ?_⟩
    have hh : s.ln.held = [] := by rw [hl.ln]
    refine (C.tick s A 0 c (T : Nat) V (by rw [hh]; rfl) (by decide) (by rw [hh]; exact h)).mono fun e w' ⟨A, n, c, B, m, d, he, h1, h2, h3, h4, h5⟩ => ?_
    rw [e1] at he h1 h2 h3 h4
    have hh' : s'.ln.held = [] := by rw [e2.ln]
    dsimp only at he h1 h2 h3 h4
    rw [hh'] at h1 h3
    obtain rfl : n = 0 := h1.symm
    subst h2
    exact ⟨A, c, B, d, he, h3, h4, h5⟩))
  have HE := Lib.hid (fun (t : Int) (x : Int) (s : Ses) (A : Option Addr) (c : Nat) (V : World) (h : Sl V A 0 c 20 []) (hl : LS ((q : Int) + 1) t s) (h1 : 3 * ((q : Int) + 1) ≤ x ∧ x ≤ 4611686018427387904) => (show Calls Try.prog 10 #[.agg (sesArr s A 0 c), .int .i64 x] V (fun e w' => ∃ A c B d, e = .returned (.tuple #[.agg (sesArr { s with st := 0 } A 0 c), .slice B 0 d, .int .i64 0]) ∧ Below V.heap.size V w') from by
    have hh : s.ln.held = [] := by rw [hl.ln]
    refine (C.tick s A 0 c x V (by rw [hh]; rfl) (by decide) (by rw [hh]; exact h)).mono fun e w' ⟨A, n, c, B, m, d, he, h1', h2, h3, h4, h5⟩ => ?_
    rw [lost_end hl hn h1] at he h1' h2 h3 h4
    dsimp only at he h1' h2 h3 h4
    rw [hh] at h1'
    obtain rfl : n = 0 := h1'.symm
    obtain rfl : m = 0 := h2.symm
    exact ⟨A, c, B, d, he, h5⟩))
  have HL0 := Lib.hid (lost_start (n := (q : Int) + 1) (by omega))
  go_enter Try.func4, Try.ntmps4
  go_wp2_with fail
  refine HA.out.mono ?_
  rintro e w1 ⟨rfl, hb1⟩
  have HB := Lib.hid hb1
  have HI := Lib.hid (RI.start w1)
  clear hb1 HA
  go_upto_region 4 with (fail)
  clear hq
  go_upto_region 5 with (first | (go_at_call 7; refine (H1.out _).mono ?_; rintro e w2 ⟨rfl, hb2⟩; have HI := Lib.hid (HI.out.on hb2); clear hb2) | (refine ri_put rfl 29 (.tmp 6) (.tmp 31) rfl (sesArr (newS ((q : Int) + 1)) none 0 0) rfl rfl (HI.out.add 29 (sesArr zSes none 0 0)) rfl infoS (ses_one _ _ _ _) ?_; rintro w3 hI3 -; have HI := Lib.hid hI3; clear hI3))
  go_upto_region 6 with (first | (refine wpList_load_row rfl 29 (.tmp 6) rfl _ rfl 29 _ (0, 0) _ HI.out.bx Try.underlying29 rfl infoS ?_) | (go_at_call 8; refine (H2.out _).mono ?_; rintro e w3 ⟨A1, c1, B1, d1, rfl, hs1, hb3⟩; have HI := Lib.hid (HI.out.on hb3); have HS := Lib.hid hs1; clear hb3 hs1) | (refine ri_put rfl 29 (.tmp 6) (.tmp 36) rfl (sesArr (askedS ((q : Int) + 1) 0 0) A1 0 c1) rfl rfl HI.out rfl infoS (ses_one _ _ _ _) ?_; rintro w3 hI3 -; have HI := Lib.hid hI3; clear hI3))
  go_upto_region 9 with (first | (refine wpList_load_row rfl 29 (.tmp 6) rfl _ rfl 29 _ (0, 0) _ HI.out.bx Try.underlying29 rfl infoS ?_) | (go_at_call 9; refine (H3.out _ _ _ HS.out.nilAny).mono ?_; rintro e w4 ⟨A2, c2, B2, d2, B2', d2', rfl, hs2, hb4⟩; have HI := Lib.hid (HI.out.on hb4); have HS := Lib.hid hs2; clear hb4 hs2) | (refine ri_put rfl 29 (.tmp 6) (.tmp 43) rfl (sesArr (onS ((q : Int) + 1) 0 0) A2 0 c2) rfl rfl HI.out rfl infoS (ses_one _ _ _ _) ?_; rintro w3 hI3 -; have HI := Lib.hid hI3; clear hI3))
  have HSn := Lib.hid (show ∀ V : World, Sl V A2 0 c2 20 [] from fun V => HS.out.nilAny)
  clear HS H1 H2 H3
  go_wp2_with fail
  go_loopw [12, 13, 14] (fun s12 s13 s14 wr => ∃ (T u v c : Nat) (s : Ses) (A : Option Addr), s14 = .int .i64 (T : Nat) ∧ s12 = .int .i64 (u : Nat) ∧ s13 = .int .i64 (v : Nat) ∧ 1 ≤ T ∧ T ≤ 3 * (q + 1) ∧ u ≤ 2 * T ∧ v ≤ 2 * T ∧ Hid (u = if 2 * ((q : Int) + 1) ≤ (T : Int) - 1 then 1 else 0) ∧ Hid ((q : Int) + 1 ≤ (T : Int) - 1 → 1 ≤ v) ∧ Hid (LS ((q : Int) + 1) ((T : Int) - 1) s) ∧ Hid (RI w1 [(w2.heap.size, 29, sesArr s A 0 c)] wr) ∧ Hid (Sl wr A 0 c 20 [])) (fun _ _ s14 _ => 3 * (q + 1) - (intOf s14).toNat)
  case atStart => exact ⟨1, 0, 0, c2, onS ((q : Int) + 1) 0 0, A2, rfl, rfl, rfl, Nat.le_refl _, by omega, by omega, by omega, Lib.hid (by rw [if_neg (by omega)]), Lib.hid (fun h => by omega), HL0, HI, Lib.hid (HSn.out _)⟩
  case round =>
    clear HI HSn HL0
    obtain ⟨T, u, v, c, s, A, rfl, rfl, rfl, hT1, hT3, hu2, hv2, HU, HV, HLS, HI, HS⟩ := hrel
    by_cases hlt : T < 3 * (q + 1)
    · have hltI : (T : Int) < 3 * ((q : Int) + 1) := by omega
      obtain ⟨s', said, hls, hcn3, hcn2, hl2, hcall0⟩ := HT.out T s HLS.out ⟨hT1, hltI⟩
      have hcall := Lib.hid hcall0
      obtain ⟨m, hm⟩ : ∃ m, said.length = m := ⟨_, rfl⟩
      rw [hm] at hl2 hcall
      have HLs := Lib.hid hls
      have HC3 := Lib.hid hcn3
      have HC2 := Lib.hid hcn2
      have HMl := Lib.hid hm
      have Hst := Lib.hid hls.st
      have Htt := Lib.hid hls.tested
      clear hls hcn3 hcn2 hcall0 hm
      go_upto_region 14 with (first | (refine wpList_load_row rfl 29 (.tmp 6) rfl _ rfl 29 _ (0, 0) _ HI.out.bx Try.underlying29 rfl infoS ?_) | (go_at_call 10; refine (hcall.out _ _ _ HS.out.nilAny).mono ?_; rintro e w4 ⟨A3, c3, B3, d3, rfl, hs3, hm3, hb4⟩; have HI := Lib.hid (HI.out.on hb4); have HS3 := Lib.hid hs3; have HM := Lib.hid hm3; clear hb4 hs3 hm3) | (refine ri_put rfl 29 (.tmp 15) (.tmp 60) rfl (sesArr s' A3 0 c3) rfl rfl (HI.out.add 29 (sesArr zSes none 0 0)) rfl infoS (ses_one _ _ _ _) ?_; intro w5 hI5 hf5; have HM := Lib.hid ((HM.out.on ((Below.refl _ _).alloc (Nat.le_refl _) _)).farM (HI.out.add 29 (sesArr zSes none 0 0)).bx (Nat.le_refl 10) hf5); have HI := Lib.hid hI5; clear hI5 hf5))
      have hd3 : d3 ≤ 9223372036854775807 := by have := HM.out.cap; unfold maxLen at this; omega
      have hmd := HM.out.le
      go_wp2_with fail
      go_loop [12, 13, 18] (fun s12 s13 s18 => ∃ k u' v' : Nat, k ≤ m ∧ s18 = .int .i64 (k : Nat) ∧ s12 = .int .i64 (u' : Nat) ∧ s13 = .int .i64 (v' : Nat) ∧ u' ≤ u + k ∧ v' ≤ v + k ∧ Hid (u' = u + cntK 3 (said.take k)) ∧ Hid (v' = v + cntK 2 (said.take k))) (fun _ _ s18 => m - (intOf s18).toNat)
      case atStart => exact ⟨0, u, v, Nat.zero_le _, rfl, rfl, rfl, by omega, by omega, Lib.hid (by simp [cntK]), Lib.hid (by simp [cntK])⟩
      case round =>
        obtain ⟨k, u', v', hk, rfl, rfl, rfl, hu', hv', HU', HV'⟩ := hrel
        by_cases hlk : k < m
        · have hkl : k < said.length := by rw [HMl.out]; exact hlk
          obtain ⟨b, off, rfl, hra⟩ := HM.out.msg hkl
          have f0 := hra 0 _ rfl
          rw [Nat.add_zero] at f0
          have h3 := cntK_take (k := 3) said k hkl
          have h2 := cntK_take (k := 2) said k hkl
          generalize said[k].kind = kd at *
          have H3 := Lib.hid h3
          have H2 := Lib.hid h2
          clear hra h3 h2
          by_cases e3 : kd = 3
          · have b3 : (kd == 3) = true := by simp [e3]
            have b2 : (kd == 2) = false := by simp [e3]
            have U2 := Lib.hid (show u' + 1 = u + cntK 3 (said.take (k + 1)) by rw [H3.out, if_pos e3, HU'.out]; omega)
            have V2 := Lib.hid (show v' = v + cntK 2 (said.take (k + 1)) by rw [H2.out, if_neg (by omega), HV'.out]; rfl)
            clear e3 H3 H2
            go_wp2
            go_round
            case rel => exact ⟨k + 1, u' + 1, v', by omega, by go_num, by go_num, rfl, by omega, by omega, U2, V2⟩
            case measure => simp [intOf]; omega
          · have b3 : (kd == 3) = false := by simp [e3]
            have U2 := Lib.hid (show u' = u + cntK 3 (said.take (k + 1)) by rw [H3.out, if_neg e3, HU'.out]; rfl)
            by_cases e2 : kd = 2
            · have b2 : (kd == 2) = true := by simp [e2]
              have V2 := Lib.hid (show v' + 1 = v + cntK 2 (said.take (k + 1)) by rw [H2.out, if_pos e2, HV'.out]; omega)
              clear e3 e2 H3 H2
              go_wp2
              go_round
              case rel => exact ⟨k + 1, u', v' + 1, by omega, by go_num, rfl, by go_num, by omega, by omega, U2, V2⟩
              case measure => simp [intOf]; omega
            · have b2 : (kd == 2) = false := by simp [e2]
              have V2 := Lib.hid (show v' = v + cntK 2 (said.take (k + 1)) by rw [H2.out, if_neg e2, HV'.out]; rfl)
              clear e3 e2 H3 H2
              go_wp2
              go_round
              case rel => exact ⟨k + 1, u', v', by omega, by go_num, rfl, rfl, by omega, by omega, U2, V2⟩
              case measure => simp [intOf]; omega
        · obtain rfl : m = k := by omega
          have hfu : u' = if 2 * ((q : Int) + 1) ≤ ((T + 1 : Nat) : Int) - 1 then 1 else 0 := by
            have h1 := HU'.out
            rw [List.take_of_length_le (by rw [HMl.out]; exact Nat.le_refl _), HC3.out, HU.out] at h1
            rw [h1]
            push_cast
            split <;> split <;> split <;> omega
          have hfv : (q : Int) + 1 ≤ ((T + 1 : Nat) : Int) - 1 → 1 ≤ v' := fun hh => by
            have h1 := HV'.out
            rw [List.take_of_length_le (by rw [HMl.out]; exact Nat.le_refl _)] at h1
            push_cast at hh
            by_cases e : (T : Int) = (q : Int) + 1
            · have := HC2.out e; omega
            · have := HV.out (by omega); omega
          have HFu := Lib.hid hfu
          have HFv := Lib.hid hfv
          have hlsT := HLs.out
          rw [show (T : Int) = ((T + 1 : Nat) : Int) - 1 by push_cast; omega] at hlsT
          have HLT := Lib.hid hlsT
          have f0 := (HI.out.cell 0).trans (show _ = some (Value.int .i64 2) from congrArg (fun z => some (Value.int .i64 z)) Hst.out)
          obtain ⟨tb, htb⟩ : ∃ tb : Bool, decide (2 * ((q : Int) + 1) ≤ (T : Int)) = tb := ⟨_, rfl⟩
          have f9 := (HI.out.cell 9).trans (show _ = some (Value.bool tb) from congrArg (fun z => some (Value.bool z)) (Htt.out.trans htb))
          clear hfu hfv hlsT HU HV HU' HV' HC3 HC2 HM HS HLS hcall
          go_wp2_with (first | (refine wpList_load_row rfl 29 (.tmp 15) rfl _ rfl 29 _ (0, 0) _ HI.out.bx Try.underlying29 rfl infoS ?_) | (refine ri_put rfl 29 (.tmp 6) (.tmp 101) rfl (sesArr s' A3 0 c3) rfl rfl HI.out.swap rfl infoS (ses_one _ _ _ _) ?_; rintro w7 hI7 -; have HI7 := Lib.hid hI7.swap.tail; clear hI7))
          go_roundw
          case rel => exact ⟨T + 1, u', v', c3, s', A3, by go_num, rfl, rfl, by omega, by omega, by omega, by omega, HFu, HFv, HLT, HI7, Lib.hid HS3.out.nilAny⟩
          case measure => simp [intOf]; omega
    · have hTe : (T : Int) = 3 * ((q : Int) + 1) := by omega
      have hub : ((u : Int) == 1) = true := by
        have h := HU.out
        rw [if_pos (by omega)] at h
        simp [h]
      have hvb : (1 : Int) ≤ (v : Int) := by have := HV.out (by omega); omega
      have hxx : ¬ (T : Int) < 3 * ((q : Int) + 1) := by omega
      have hT := Lib.hid hTe
      clear hTe hlt HU HV HT
      go_wp2_with (first | (refine wpList_load_row rfl 29 (.tmp 6) rfl _ rfl 29 _ (0, 0) _ HI.out.bx Try.underlying29 rfl infoS ?_) | (go_at_call 10; refine (HE.out ((T : Int) - 1) _ s A c _ HS.out.nilAny HLS.out ⟨by omega, by omega⟩).mono ?_; rintro e w4 ⟨A3, c3, B3, d3, rfl, hb4⟩; have HI := Lib.hid (HI.out.on hb4); clear hb4) | (refine ri_put rfl 29 (.tmp 19) (.tmp 110) rfl (sesArr { s with st := 0 } A3 0 c3) rfl rfl (HI.out.add 29 (sesArr zSes none 0 0)) rfl infoS (ses_one _ _ _ _) ?_; rintro w5 hI5 -; have HI := Lib.hid hI5; clear hI5; have f0 := (HI.out.cell 0).trans (show _ = some (Value.int .i64 0) from rfl)))
      go_ret
      exact ⟨rfl, HB.out.trans (HI.out.below.mono HB.out.size)⟩
end Go.Proofs.Ytblkdmbkkimbpaa
