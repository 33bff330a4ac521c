/-
  Layer 7's laws: SessKeeps.
-/
import Derived.Test.YtblkdmbkkimbpaaLaw07
namespace Go.Proofs.Ytblkdmbkkimbpaa
open Go.RowKit

theorem keeps_connect {s : Ses} (h : s.R) {now : Int} (hn : 0 ≤ now ∧ now ≤ 4611686018427387904) : ∃ c l, connectS (dropS s) now = (c, l, 0) ∧ c.st = 1 ∧ c.ln = ⟨s.ln.next, []⟩ ∧ c.asked = 0 ∧ c.heard = now ∧ (s.out = 1099511627776 → l = [] ∧ c.out = s.out) ∧ (s.out ≠ 1099511627776 → (∃ m, l = [m] ∧ m.kind = 1 ∧ m.seq = s.out) ∧ c.out = s.out + 1) := by
  obtain ⟨e, hR⟩ := keeps_drop h
  have ho := h.out
  unfold connectS
  rw [if_neg (by rw [Ses.right_iff.2 hR, tm_ok hn]; decide), if_neg (by rw [e]; exact fun h => h rfl), e]
  refine ⟨_, _, rfl, ?_⟩
  unfold sayS
  by_cases hc : s.out = 1099511627776
  · rw [if_pos (show (1099511627776 : Int) ≤ s.out by omega)]
    exact ⟨rfl, rfl, rfl, rfl, fun _ => ⟨rfl, rfl⟩, fun h => absurd hc h⟩
  · rw [if_neg (show ¬ (1099511627776 : Int) ≤ s.out by omega)]
    exact ⟨rfl, rfl, rfl, rfl, fun h => absurd h hc, fun _ => ⟨⟨_, rfl, rfl, rfl⟩, rfl⟩⟩
set_option maxRecDepth 100000 in
set_option maxHeartbeats 4000000 in
theorem walk_SessKeeps (C : SessC) (s : Ses) (A : Option Addr) (n c : Nat) (hl : s.ln.held.length = n) (now : Int) (W : World) (hs : Sl W A n c 20 (icells s.ln.held)) (_ : True) :
    Calls Try.prog 5 #[.agg (sesArr s A n c), .int .i64 now] W fun e W' => e = .returned (.bool true) ∧ Below W.heap.size W W' := by
  have HI := Lib.hid ((RI.start W).add 29 (sesArr s A n c))
  have HA := Lib.hid (awake07 C (W.alloc (.cells (sesArr s A n c) 29)))
  have HR := Lib.hid (fun (V : World) (h : Sl V A n c 20 (icells s.ln.held)) => C.right s A n c V hl h)
  have HD := Lib.hid (fun (V : World) (h : Sl V A n c 20 (icells s.ln.held)) => fun hn : n ≤ 100000 => C.drop s A n c V hl hn h)
  have HS := Lib.hid (hs.on HI.out.below)
  have hcap : c ≤ 9223372036854775807 := by have := hs.cap; unfold maxLen at this; omega
  have hnc := hs.le
  clear hs
  by_cases hbig : 80 < n
  · have hbigI : decide ((80 : Int) < (n : Int)) = true := decide_eq_true (by omega)
    clear hbig
    go_enter Try.func5, Try.ntmps5
    go_wp2_with fail
    refine HA.out.mono ?_
    rintro e w1 ⟨rfl, hb1⟩
    have HS := Lib.hid (HS.out.on hb1)
    have HI := Lib.hid (HI.out.on hb1)
    have hf2 := (HI.out.cell 2).trans (show _ = some (Value.slice A n c) from rfl)
    clear hb1 HA
    go_wp2
    go_ret
    exact ⟨rfl, HI.out.below⟩
  · have hbigI : decide ((80 : Int) < (n : Int)) = false := decide_eq_false (by omega)
    have hn80 : n ≤ 80 := by omega
    clear hbig
    rcases hR : s.rightB with _ | _
    · rw [hR] at HR
      clear hR HD
      go_enter Try.func5, Try.ntmps5
      go_wp2_with fail
      refine HA.out.mono ?_
      rintro e w1 ⟨rfl, hb1⟩
      have HS := Lib.hid (HS.out.on hb1)
      have HI := Lib.hid (HI.out.on hb1)
      have hf2 := (HI.out.cell 2).trans (show _ = some (Value.slice A n c) from rfl)
      clear hb1 HA
      go_wp2_with (first | (go_guarded; refine box_load HI.out.bx 29 (.tmp 2) rfl rfl _ Try.underlying29 rfl infoS ?_; try simp only [Act.put, List.setIfInBounds_toArray, List.set_cons_zero, List.set_cons_succ]) | (go_at_call 11; refine (HR.out _ HS.out).mono ?_; rintro e w2 ⟨rfl, hb2⟩; have HI := Lib.hid (HI.out.on hb2); have HS := Lib.hid (HS.out.on hb2); clear hb2))
      go_ret
      exact ⟨rfl, HI.out.below⟩
    · rw [hR] at HR
      have hRR := Ses.right_iff.1 hR
      clear hR
      by_cases h0 : now < 0
      · have h0b : decide (now < 0) = true := decide_eq_true h0
        clear h0 HD
        go_enter Try.func5, Try.ntmps5
        go_wp2_with fail
        refine HA.out.mono ?_
        rintro e w1 ⟨rfl, hb1⟩
        have HS := Lib.hid (HS.out.on hb1)
        have HI := Lib.hid (HI.out.on hb1)
        have hf2 := (HI.out.cell 2).trans (show _ = some (Value.slice A n c) from rfl)
        clear hb1 HA
        go_wp2_with (first | (go_guarded; refine box_load HI.out.bx 29 (.tmp 2) rfl rfl _ Try.underlying29 rfl infoS ?_; try simp only [Act.put, List.setIfInBounds_toArray, List.set_cons_zero, List.set_cons_succ]) | (go_at_call 11; refine (HR.out _ HS.out).mono ?_; rintro e w2 ⟨rfl, hb2⟩; have HI := Lib.hid (HI.out.on hb2); have HS := Lib.hid (HS.out.on hb2); clear hb2))
        go_ret
        exact ⟨rfl, HI.out.below⟩
      · have h0b : decide (now < 0) = false := decide_eq_false h0
        by_cases h1 : 4611686018427387904 < now
        · have h1b : decide ((4611686018427387904 : Int) < now) = true := decide_eq_true h1
          clear h0 h1 HD
          go_enter Try.func5, Try.ntmps5
          go_wp2_with fail
          refine HA.out.mono ?_
          rintro e w1 ⟨rfl, hb1⟩
          have HS := Lib.hid (HS.out.on hb1)
          have HI := Lib.hid (HI.out.on hb1)
          have hf2 := (HI.out.cell 2).trans (show _ = some (Value.slice A n c) from rfl)
          clear hb1 HA
          go_wp2_with (first | (go_guarded; refine box_load HI.out.bx 29 (.tmp 2) rfl rfl _ Try.underlying29 rfl infoS ?_; try simp only [Act.put, List.setIfInBounds_toArray, List.set_cons_zero, List.set_cons_succ]) | (go_at_call 11; refine (HR.out _ HS.out).mono ?_; rintro e w2 ⟨rfl, hb2⟩; have HI := Lib.hid (HI.out.on hb2); have HS := Lib.hid (HS.out.on hb2); clear hb2))
          go_ret
          exact ⟨rfl, HI.out.below⟩
        · have h1b : decide ((4611686018427387904 : Int) < now) = false := decide_eq_false h1
          have hnow : 0 ≤ now ∧ now ≤ 4611686018427387904 := by omega
          clear h0 h1
          obtain ⟨hde, hdR⟩ := keeps_drop hRR
          obtain ⟨cS, lS, hcn, q1, q2, q3, q4, q5, q6⟩ := keeps_connect hRR hnow
          have hdh : (dropS s).ln.held = [] := by rw [hde]
          have HDr := Lib.hid (fun (V : World) (h : Sl V A n c 20 (icells s.ln.held)) => (show Calls Try.prog 12 #[.agg (sesArr s A n c)] V (fun e w' => ∃ A' c', e = .returned (.agg (sesArr (dropS s) A' 0 c')) ∧ Sl w' A' 0 c' 20 [] ∧ Below V.heap.size V w') from
            (HD.out V h (by omega)).mono fun e w' ⟨A', n', c', he, h1, h2, h3⟩ => by
              rw [hdh] at h1 h2
              obtain rfl : n' = 0 := h1.symm
              exact ⟨A', c', he, h2, h3⟩))
          have HRd := Lib.hid (fun (A : Option Addr) (c : Nat) (V : World) (h : Sl V A 0 c 20 []) => (show Calls Try.prog 11 #[.agg (sesArr (dropS s) A 0 c)] V (fun e w' => e = .returned (.bool true) ∧ Below V.heap.size V w') from by
            have hc := C.right (dropS s) A 0 c V (by rw [hdh]; rfl) (by rw [hdh]; exact h)
            rw [Ses.right_iff.2 hdR] at hc
            exact hc))
          have HCn := Lib.hid (fun (A : Option Addr) (c : Nat) (V : World) (h : Sl V A 0 c 20 []) => (show Calls Try.prog 8 #[.agg (sesArr (dropS s) A 0 c), .int .i64 now] V (fun e w' => ∃ A c B d, e = .returned (.tuple #[.agg (sesArr cS A 0 c), .slice B lS.length d, .int .i64 0]) ∧ Sl w' B lS.length d 18 (mcells lS) ∧ Below V.heap.size V w') from
            (C.connect (dropS s) A 0 c now V (by rw [hdh]; rfl) (by decide) (by rw [hdh]; exact h)).mono fun e w' ⟨A, n, c, B, m, d, he, h1, h2, h3, h4, h5⟩ => by
              rw [hcn] at he h1 h2 h3 h4
              dsimp only at he h1 h2 h3 h4
              rw [q2] at h1
              obtain rfl : n = 0 := h1.symm
              subst h2
              exact ⟨A, c, B, d, he, h4, h5⟩))
          have hout := hRR.out
          have HDE := Lib.hid hde
          have HQ := Lib.hid (show cS.st = 1 ∧ cS.ln.next = s.ln.next ∧ cS.asked = 0 ∧ cS.heard = now from ⟨q1, by rw [q2], q3, q4⟩)
          have HQ5 := Lib.hid q5
          have HQ6 := Lib.hid q6
          clear hcn q1 q2 q3 q4 q5 q6 hdh HD hde hRR hdR
          generalize hml : lS.length = ml at *
          have HML := Lib.hid hml
          clear hml
          go_enter Try.func5, Try.ntmps5
          go_wp2_with fail
          refine HA.out.mono ?_
          rintro e w1 ⟨rfl, hb1⟩
          have HS := Lib.hid (HS.out.on hb1)
          have HI := Lib.hid (HI.out.on hb1)
          have hf2 := (HI.out.cell 2).trans (show _ = some (Value.slice A n c) from rfl)
          clear hb1 HA
          go_upto_region 6 with (first | (go_guarded; refine box_load HI.out.bx 29 (.tmp 2) rfl rfl _ Try.underlying29 rfl infoS ?_; try simp only [Act.put, List.setIfInBounds_toArray, List.set_cons_zero, List.set_cons_succ]) | (go_at_call 11; refine (HR.out _ HS.out).mono ?_; rintro e w2 ⟨rfl, hb2⟩; have HI := Lib.hid (HI.out.on hb2); have HS := Lib.hid (HS.out.on hb2); clear hb2) | (refine wpList_load_row rfl 29 (.tmp 2) rfl _ rfl 29 _ (0, 0) _ HI.out.bx Try.underlying29 rfl infoS ?_) | (go_at_call 12; refine (HDr.out _ HS.out).mono ?_; rintro e w3 ⟨A3, c3, rfl, hs3, hb3⟩; have HI := Lib.hid (HI.out.on hb3); have HS3 := Lib.hid hs3; clear hs3 hb3) | (refine ri_put rfl 29 (.tmp 5) (.tmp 30) rfl (sesArr (dropS s) A3 0 c3) rfl rfl (HI.out.add 29 (sesArr zSes none 0 0)) rfl infoS (ses_one _ _ _ _) ?_; rintro w4 hI4 -; have HI := Lib.hid hI4; clear hI4))
          have g0 := (HI.out.cell 0).trans (show _ = some (Value.int .i64 0) from congrArg (fun z : Ses => some (Value.int .i64 z.st)) HDE.out)
          have g1 := (HI.out.cell 1).trans (show some (Value.int .i64 (dropS s).ln.next) = some (Value.int .i64 s.ln.next) by rw [HDE.out])
          have g2 := (HI.out.cell 2).trans (show _ = some (Value.slice A3 0 c3) from rfl)
          have g3 := (HI.out.cell 3).trans (show some (Value.int .i64 (dropS s).out) = some (Value.int .i64 s.out) by rw [HDE.out])
          have k1 := (HI.out.swap.cell 1).trans (show _ = some (Value.int .i64 s.ln.next) from rfl)
          have k3 := (HI.out.swap.cell 3).trans (show _ = some (Value.int .i64 s.out) from rfl)
          go_upto_region 8 with (first | (go_guarded; refine box_load HI.out.bx 29 (.tmp 5) rfl rfl _ Try.underlying29 rfl infoS ?_; try simp only [Act.put, List.setIfInBounds_toArray, List.set_cons_zero, List.set_cons_succ]) | (go_at_call 11; refine (HRd.out _ _ _ HS3.out.nilAny).mono ?_; rintro e w5 ⟨rfl, hb5⟩; have HI := Lib.hid (HI.out.on hb5); clear hb5))
          clear g0 g1 g2 g3 k1 k3
          go_upto_region 9 with (first | (refine wpList_load_row rfl 29 (.tmp 5) rfl _ rfl 29 _ (0, 0) _ HI.out.bx Try.underlying29 rfl infoS ?_) | (go_at_call 8; refine (HCn.out _ _ _ HS3.out.nilAny).mono ?_; rintro e w6 ⟨A6, c6, B6, d6, rfl, hm6, hb6⟩; have HI := Lib.hid (HI.out.on hb6); have HM := Lib.hid hm6; clear hm6 hb6) | (refine ri_put rfl 29 (.tmp 6) (.tmp 66) rfl (sesArr cS A6 0 c6) rfl rfl (HI.out.add 29 (sesArr zSes none 0 0)) rfl infoS (ses_one _ _ _ _) ?_; intro w7 hI7 hf7; have HM := Lib.hid ((HM.out.on ((Below.refl _ _).alloc (Nat.le_refl _) _)).farM (HI.out.add 29 (sesArr zSes none 0 0)).bx (Nat.le_refl 10) hf7); have HI := Lib.hid hI7; clear hI7 hf7))
          have f0 := (HI.out.cell 0).trans (show _ = some (Value.int .i64 1) from congrArg (fun z => some (Value.int .i64 z)) HQ.out.1)
          have f1 := (HI.out.cell 1).trans (show _ = some (Value.int .i64 s.ln.next) from congrArg (fun z => some (Value.int .i64 z)) HQ.out.2.1)
          have f7 := (HI.out.cell 7).trans (show _ = some (Value.int .i64 0) from congrArg (fun z => some (Value.int .i64 z)) HQ.out.2.2.1)
          have f5 := (HI.out.cell 5).trans (show _ = some (Value.int .i64 now) from congrArg (fun z => some (Value.int .i64 z)) HQ.out.2.2.2)
          have f3 := (HI.out.cell 3).trans (show _ = some (Value.int .i64 cS.out) from rfl)
          have k1 := (HI.out.rot3.cell 1).trans (show _ = some (Value.int .i64 s.ln.next) from rfl)
          have k3 := (HI.out.rot3.cell 3).trans (show _ = some (Value.int .i64 s.out) from rfl)
          have hmd := HM.out.le
          have hmc := HM.out.cap
          unfold maxLen at hmc
          by_cases ho : s.out = 1099511627776
          · have hob : (s.out == 1099511627776) = true := by simp [ho]
            obtain ⟨e1, e2⟩ := HQ5.out ho
            obtain rfl : ml = 0 := by rw [← HML.out, e1]; rfl
            rw [e2] at f3
            clear ho e1 e2
            go_wp2
            go_ret
            exact ⟨rfl, HI.out.below⟩
          · have hob : (s.out == 1099511627776) = false := by simp [ho]
            obtain ⟨⟨m0, e1, e3, e4⟩, e2⟩ := HQ6.out ho
            obtain rfl : ml = 1 := by rw [← HML.out, e1]; rfl
            rw [e2] at f3
            have HM0 := HM.out
            rw [e1] at HM0
            obtain ⟨b, off, rfl, hr⟩ := HM0.msg0
            have m1 := (hr 0 _ rfl).trans (show some (Value.int .i64 m0.kind) = some (Value.int .i64 1) by rw [e3])
            have m2 := (hr 1 _ rfl).trans (show some (Value.int .i64 m0.seq) = some (Value.int .i64 s.out) by rw [e4])
            rw [Nat.add_zero] at m1
            have hwr : IntKind.i64.wrap (s.out + 1) = s.out + 1 := by rw [IntKind.wrap_i64]; omega
            clear ho e1 e2 e3 e4 hr HM0
            go_wp2_with fail
            go_quiet (fail)
            go_wp2
            go_ret
            exact ⟨rfl, below_dn HI.out.below _⟩
end Go.Proofs.Ytblkdmbkkimbpaa
