/-
  Layer 7: the program's own way: what it says because nothing came: its contracts.
-/
import Derived.Test.YtblkdmbkkimbpaaSessAsk
namespace Go.Proofs.Ytblkdmbkkimbpaa
open Go.RowKit

theorem TI.dn {w W : World} {g : Nat} {s : Ses} {A : Option Addr} {n c : Nat} {now : Int} {u v : Value} {L : List Mg} (h : TI w g s A n c now u v L W) (q : Nat) : TI w g s A n c now u v L (W.drewN q) := h.on (below_dn (Below.refl _ _) q)
theorem own_ago (w : World) (g : Nat) (s : Ses) (A : Option Addr) (n c : Nat) (now : Int) (v : Value) (L : List Mg) (V : World) (hT : TI w g s A n c now v v L V) (k : Int) (hk : 1 ≤ k ∧ k ≤ 3) (hn : 0 ≤ now ∧ now ≤ 4611686018427387904) (he : 1 ≤ s.every ∧ s.every ≤ 1048576) :
    Calls Try.prog 22 #[.pointer (some ⟨g, 0, none⟩), .int .i64 k] V fun e W' => e = .returned (.int .i64 (now - k * s.every)) ∧ ∃ q, W' = V.drewN q := by
  have c10 := (hT.cell 10).trans (show _ = some (Value.int .i64 now) from rfl)
  have c4 := (hT.cell 4).trans (show _ = some (Value.int .i64 s.every) from rfl)
  have hm : k * s.every ≤ 3 * 1048576 ∧ 0 ≤ k * s.every := by
    rcases (show k = 1 ∨ k = 2 ∨ k = 3 by omega) with rfl | rfl | rfl <;> omega
  have hw1 : IntKind.i64.wrap (k * s.every) = k * s.every := by rw [IntKind.wrap_i64]; omega
  have hw2 : IntKind.i64.wrap (now - k * s.every) = now - k * s.every := by rw [IntKind.wrap_i64]; omega
  clear hT
  go_enter Try.func22, Try.ntmps22
  go_wp2_with fail
  go_quiet (fail)
  go_wp2
  go_ret
  exact ⟨rfl, _, rfl⟩
theorem sayS_len (s : Ses) (m : Mg) (now : Int) : (sayS s m now).2.length ≤ 1 ∧ (sayS s m now).1.st = s.st ∧ (sayS s m now).1.every = s.every ∧ (sayS s m now).1.ln = s.ln := by
  unfold sayS; split <;> exact ⟨by simp, rfl, rfl, rfl⟩
theorem test_R {s : Ses} (h : s.R) {now : Int} (hn : 0 ≤ now ∧ now ≤ 4611686018427387904) : (testS s now).1.R ∧ (testS s now).1.st = s.st ∧ (testS s now).1.every = s.every ∧ (testS s now).2.length ≤ 1 := by
  have hs := sayS_len s testM now
  have hr := sayS_R h testM hn
  unfold testS
  split
  · exact ⟨⟨hr.st, hr.ln, hr.out, hr.every, hr.heard, hr.said, hr.asked, hr.at_⟩, hs.2.1, hs.2.2.1, hs.1⟩
  · exact ⟨h, rfl, rfl, Nat.zero_le _⟩
theorem beat_R {s : Ses} (h : s.R) {now : Int} (hn : 0 ≤ now ∧ now ≤ 4611686018427387904) : (beatS s now).1.R ∧ (beatS s now).1.st = s.st ∧ (beatS s now).1.every = s.every ∧ (beatS s now).2.length ≤ 1 := by
  have hs := sayS_len s (beatM eS) now
  have hr := sayS_R h (beatM eS) hn
  unfold beatS
  split
  · exact ⟨hr, hs.2.1, hs.2.2.1, hs.1⟩
  · exact ⟨h, rfl, rfl, Nat.zero_le _⟩
/-- What is said because nothing came. -/
def waitS (s : Ses) (now : Int) : Ses × List Mg := ((againS (beatS (testS s now).1 now).1 now).1, (testS s now).2 ++ (beatS (testS s now).1 now).2 ++ (againS (beatS (testS s now).1 now).1 now).2)
def WaitPost (w : World) (g : Nat) (r : Ses × List Mg) (A : Option Addr) (n c : Nat) (now : Int) (L : List Mg) (e : Ending) (W' : World) : Prop := (∃ x, e = .returned x) ∧ ∃ v', TI w g r.1 A n c now v' v' (L ++ r.2) W'
set_option maxRecDepth 100000 in
set_option maxHeartbeats 4000000 in
theorem own_wait (w : World) (g : Nat) (s : Ses) (A : Option Addr) (n c : Nat) (now : Int) (v : Value) (L : List Mg) (W : World) (hT : TI w g s A n c now v v L W) (hl : L.length ≤ 900) (hR : s.R) (hst : s.st = 2) (hn : 0 ≤ now ∧ now ≤ 4611686018427387904) :
    Calls Try.prog 23 #[.pointer (some ⟨g, 0, none⟩)] W (WaitPost w g (waitS s now) A n c now L) := by
  have HA := Lib.hid (fun (k : Int) (hk : 1 ≤ k ∧ k ≤ 3) (s : Ses) (he : 1 ≤ s.every ∧ s.every ≤ 1048576) (v : Value) (L : List Mg) (V : World) (h : TI w g s A n c now v v L V) => own_ago w g s A n c now v L V h k hk hn he)
  have HT := Lib.hid hT
  have he := hR.every
  have c5 := (hT.cell 5).trans (show _ = some (Value.int .i64 s.heard) from rfl)
  have c9 := (hT.cell 9).trans (show _ = some (Value.bool s.tested) from rfl)
  clear hT
  go_enter Try.func23, Try.ntmps23
  go_upto_if 20 with fail
  have HA2 := Lib.hid (fun q => HA.out 2 (by decide) s he v L (W.drewN q) (HT.out.dn q))
  obtain ⟨tb, htb⟩ : ∃ b : Bool, b = decide (2 * s.every ≤ now - s.heard ∧ s.tested = false) := ⟨_, rfl⟩
  go_cut [20] (fun s20 wx => s20 = .bool tb ∧ Hid (TI w g s A n c now v v L wx))
  case first =>
    by_cases h1 : 2 * s.every ≤ now - s.heard
    · have h1b : decide (s.heard ≤ now - 2 * s.every) = true := decide_eq_true (by omega)
      rcases htt : s.tested with _ | _
      · have HV := Lib.hid (show tb = true from by rw [htb]; exact decide_eq_true ⟨h1, htt⟩)
        rw [htt] at c9
        clear h1 htt htb
        go_quiet (first | (go_at_call 22; exact Calls.quiet_of (HA2.out _)))
        go_wp2_with fail
        go_meet
        case rel => exact ⟨by rw [HV.out], HT.out.dn nq⟩
      · have HV := Lib.hid (show tb = false from by rw [htb]; exact decide_eq_false (fun h => by rw [htt] at h; exact absurd h.2 (by decide)))
        rw [htt] at c9
        clear h1 htt htb
        go_quiet (first | (go_at_call 22; exact Calls.quiet_of (HA2.out _)))
        go_wp2_with fail
        go_meet
        case rel => exact ⟨by rw [HV.out], HT.out.dn nq⟩
    · have h1b : decide (s.heard ≤ now - 2 * s.every) = false := decide_eq_false (by omega)
      have HV := Lib.hid (show tb = false from by rw [htb]; exact decide_eq_false (fun h => h1 h.1))
      clear h1 htb
      go_quiet (first | (go_at_call 22; exact Calls.quiet_of (HA2.out _)))
      go_wp2_with fail
      go_meet
      case rel => exact ⟨by rw [HV.out], HT.out.dn nq⟩
  case rest =>
  obtain ⟨rfl, HTc⟩ := hcut
  clear HT HA2 c5 c9
  go_upto_if 20 with fail
  go_cut [20] (fun s20 wx => s20 = .bool tb ∧ ∃ v1, Hid (TI w g (testS s now).1 A n c now v1 v1 (L ++ (testS s now).2) wx))
  case first =>
    rcases tb with _ | _
    · have HF := Lib.hid (show testS s now = (s, []) from if_neg (of_decide_eq_false htb.symm))
      clear htb
      go_wp2_with fail
      go_meet
      case rel => exact ⟨rfl, v, by rw [HF.out, List.append_nil]; exact HTc⟩
    · have HF := Lib.hid (show testS s now = ({ (sayS s testM now).1 with tested := true }, (sayS s testM now).2) from if_pos (of_decide_eq_true htb.symm))
      have HSa := Lib.hid (fun (V : World) (h : TI w g s A n c now v v L V) => own_say w g s A n c now v L V testM h (by omega) hR.out)
      clear htb
      go_wp2_with (first | (go_at_call 16; refine (HSa.out _ HTc.out).mono ?_; rintro e w3 ⟨⟨x3, rfl⟩, v', hT3, -⟩; have HT3 := Lib.hid hT3; clear hT3) | (refine ti_put1 rfl 4 (.tmp 27) (.const (.bool true)) rfl 9 (.bool true) { (sayS s testM now).1 with tested := true } now v' rfl rfl rfl HT3.out (by decide) (by kernel_rfl) rfl rfl ?_; intro w4 hT4 _; have HT4 := Lib.hid hT4; clear hT4))
      go_meet
      case rel => exact ⟨rfl, v', by rw [HF.out]; exact HT4⟩
  case rest =>
    obtain ⟨rfl, v1, HT1⟩ := hcut
    have ht := test_R hR hn
    obtain ⟨q1, hq1⟩ : ∃ q, testS s now = q := ⟨_, rfl⟩
    rw [hq1] at ht HT1
    have HQ1 := Lib.hid hq1
    clear hq1
    obtain ⟨ht1, ht2, ht3, ht4⟩ := ht
    clear hR he HTc htb
    obtain ⟨s1, l1⟩ := q1
    dsimp only at *
    have hst1 : s1.st = 2 := ht2.trans hst
    have he1 := ht1.every
    have hll : (L ++ l1).length ≤ 901 := by rw [List.length_append]; omega
    obtain ⟨L1, hLL⟩ : ∃ x, L ++ l1 = x := ⟨_, rfl⟩
    rw [hLL] at hll HT1
    have HL1 := Lib.hid hLL
    clear ht2 ht3 ht4 hst hl hLL
    go_upto_if 35 with fail
    have HB2 := Lib.hid (fun q => (show Calls Try.prog 22 #[.pointer (some ⟨g, 0, none⟩), .int .i64 1] (wc.drewN q) (fun e W' => e = .returned (.int .i64 (now - s1.every)) ∧ ∃ m, W' = (wc.drewN q).drewN m) from by have h := HA.out 1 (by decide) s1 he1 v1 L1 (wc.drewN q) (HT1.out.dn q); rw [Int.one_mul] at h; exact h))
    have c6 := (HT1.out.cell 6).trans (show _ = some (Value.int .i64 s1.said) from rfl)
    obtain ⟨sb, hsb⟩ : ∃ b : Bool, b = decide (s1.every ≤ now - s1.said) := ⟨_, rfl⟩
    go_cut [35] (fun s35 wx => s35 = .bool sb ∧ Hid (TI w g s1 A n c now v1 v1 L1 wx))
    case first =>
      have h1b : decide (s1.said ≤ now - s1.every) = sb := by rw [hsb, decide_eq_decide]; omega
      clear hsb
      go_quiet (first | (go_at_call 22; exact Calls.quiet_of (HB2.out _)))
      go_wp2_with fail
      go_meet
      case rel => exact ⟨by first | rfl | (rw [h1b]), HT1.out.dn nq⟩
    case rest =>
    obtain ⟨rfl, HTc⟩ := hcut
    clear HT1 HB2 c6
    go_upto_if 35 with fail
    go_cut [35] (fun s35 wx => s35 = .bool sb ∧ ∃ v2, Hid (TI w g (beatS s1 now).1 A n c now v2 v2 (L1 ++ (beatS s1 now).2) wx))
    case first =>
      rcases sb with _ | _
      · have HF := Lib.hid (show beatS s1 now = (s1, []) from if_neg (of_decide_eq_false hsb.symm))
        clear hsb
        go_wp2_with fail
        go_meet
        case rel => exact ⟨rfl, v1, by rw [HF.out, List.append_nil]; exact HTc⟩
      · have HF := Lib.hid (show beatS s1 now = sayS s1 (beatM eS) now from if_pos (of_decide_eq_true hsb.symm))
        have HSa := Lib.hid (fun (V : World) (h : TI w g s1 A n c now v1 v1 L1 V) => own_say w g s1 A n c now v1 L1 V (beatM eS) h (by omega) ht1.out)
        clear hsb
        go_wp2_with (first | (go_at_call 16; refine (HSa.out _ HTc.out).mono ?_; rintro e w3 ⟨⟨x3, rfl⟩, v', hT3, -⟩; have HT3 := Lib.hid hT3; clear hT3))
        go_meet
        case rel => exact ⟨rfl, v', by rw [HF.out]; exact HT3⟩
    case rest =>
      obtain ⟨rfl, v2, HT2⟩ := hcut
      have ht := beat_R ht1 hn
      obtain ⟨q2, hq2⟩ : ∃ q, beatS s1 now = q := ⟨_, rfl⟩
      rw [hq2] at ht HT2
      have HQ2 := Lib.hid hq2
      clear hq2
      obtain ⟨ht1', ht2, ht3, ht4⟩ := ht
      clear HTc hsb ht1 he1
      obtain ⟨s2, l2⟩ := q2
      dsimp only at *
      have hst2 : s2.st = 2 := ht2.trans hst1
      have he2 := ht1'.every
      have hll2 : (L1 ++ l2).length ≤ 902 := by rw [List.length_append]; omega
      obtain ⟨L2, hLL⟩ : ∃ x, L1 ++ l2 = x := ⟨_, rfl⟩
      rw [hLL] at hll2 HT2
      have HL2 := Lib.hid hLL
      clear ht2 ht3 ht4 hst1 hll hLL
      have HZ := Lib.hid (show ∀ (q : Ses × List Mg) (v' : Value) (W' : World), againS s2 now = q → TI w g q.1 A n c now v' v' (L2 ++ q.2) W' → TI w g (waitS s now).1 A n c now v' v' (L ++ (waitS s now).2) W' from fun q v' W' h1 h2 => by
        unfold waitS
        rw [HQ1.out]; dsimp only; rw [HQ2.out]; dsimp only; rw [h1, ← List.append_assoc, ← List.append_assoc, HL1.out, HL2.out]; exact h2)
      have hT2 := HT2.out
      have hra := line_at hT2
      have HG := Lib.hid (own_Gap s2.ln.next A n c s2.ln.held hT2.hn _ hT2.sl)
      have HB3 := Lib.hid (fun (V : World) (h : TI w g s2 A n c now v2 v2 L2 V) (q : Nat) => (show Calls Try.prog 22 #[.pointer (some ⟨g, 0, none⟩), .int .i64 1] (V.drewN q) (fun e W' => e = .returned (.int .i64 (now - s2.every)) ∧ ∃ m, W' = (V.drewN q).drewN m) from by have h := HA.out 1 (by decide) s2 he2 v2 L2 (V.drewN q) (h.dn q); rw [Int.one_mul] at h; exact h))
      clear hT2 HA
      by_cases h0 : s2.ln.held = []
      · have HF := Lib.hid (show againS s2 now = (s2, []) from if_neg (fun h => h.1 h0))
        rw [show (⟨s2.ln.next, s2.ln.held⟩ : Ln) = s2.ln from rfl, gapR_nil h0] at HG
        clear h0
        go_upto_region 6 with (first | (refine wpList_load_mid rfl 27 (.tmp 43) rfl g 1 rfl [.int .i64 s2.ln.next, .slice A n c] _ hra Try.underlying27 rfl infoL ?_) | (go_at_call 32; refine HG.out.mono ?_; rintro e w2 ⟨rfl, hb2⟩; have HT3 := Lib.hid (HT2.out.on hb2); clear hb2))
        go_quiet (fail)
        have HC := Lib.hid (HT3.out.dn nq)
        go_wp2
        refine bodyPost_ret (results_none Try.results23 _ _ _) rfl ?_
        exact ⟨⟨_, rfl⟩, v2, HZ.out _ _ _ HF.out (by rw [List.append_nil]; exact HC.out)⟩
      · obtain ⟨y, r, hyr⟩ : ∃ y r, s2.ln.held = y :: r := by
          cases hh : s2.ln.held with
          | nil => exact absurd hh h0
          | cons y r => exact ⟨y, r, rfl⟩
        rw [show (⟨s2.ln.next, s2.ln.held⟩ : Ln) = s2.ln from rfl, gapR_cons ht1'.ln hyr] at HG
        dsimp only at HG
        by_cases h1 : s2.every ≤ now - s2.at_
        · have h1b : decide (s2.at_ ≤ now - s2.every) = true := decide_eq_true (by omega)
          have HF := Lib.hid (show againS s2 now = askS { s2 with asked := 0 } now from if_pos ⟨h0, h1⟩)
          have hR0 : ({ s2 with asked := 0 } : Ses).R := ⟨ht1'.st, ht1'.ln, ht1'.out, ht1'.every, ht1'.heard, ht1'.said, by show 0 ≤ (0 : Int) ∧ (0 : Int) ≤ 4611686018427387904; decide, ht1'.at_⟩
          have HSa := Lib.hid (fun (V : World) (h : TI w g { s2 with asked := 0 } A n c now v2 v2 L2 V) => own_ask w g { s2 with asked := 0 } A n c now v2 L2 V h (by omega) hR0 hst2)
          clear h0 h1 hyr hR0
          go_upto_region 6 with (first | (refine wpList_load_mid rfl 27 (.tmp 43) rfl g 1 rfl [.int .i64 s2.ln.next, .slice A n c] _ hra Try.underlying27 rfl infoL ?_) | (go_at_call 32; refine HG.out.mono ?_; rintro e w2 ⟨rfl, hb2⟩; have HT3 := Lib.hid (HT2.out.on hb2); have HB4 := Lib.hid (HB3.out _ HT3.out); have c8 := (HT3.out.cell 8).trans (show _ = some (Value.int .i64 s2.at_) from rfl); clear hb2))
          go_quiet (first | (go_at_call 22; exact Calls.quiet_of (HB4.out _)))
          have HC := Lib.hid (HT3.out.dn nq)
          go_wp2_with (first | (refine ti_put1 rfl 2 (.tmp 63) (.const (.int .i64 0)) rfl 7 (.int .i64 0) { s2 with asked := 0 } now v2 rfl rfl rfl HC.out (by decide) (by kernel_rfl) rfl rfl ?_; intro w4 hT4 _; have HT4 := Lib.hid hT4; clear hT4) | (go_at_call 21; refine (HSa.out _ HT4.out).mono ?_; rintro e w5 ⟨⟨x5, rfl⟩, v', hT5, -⟩; have HT5 := Lib.hid hT5; clear hT5))
          refine bodyPost_ret (results_none Try.results23 _ _ _) rfl ?_
          exact ⟨⟨_, rfl⟩, v', HZ.out _ _ _ HF.out HT5.out⟩
        · have h1b : decide (s2.at_ ≤ now - s2.every) = false := decide_eq_false (by omega)
          have HF := Lib.hid (show againS s2 now = (s2, []) from if_neg (fun h => h1 h.2))
          clear h0 h1 hyr
          go_upto_region 6 with (first | (refine wpList_load_mid rfl 27 (.tmp 43) rfl g 1 rfl [.int .i64 s2.ln.next, .slice A n c] _ hra Try.underlying27 rfl infoL ?_) | (go_at_call 32; refine HG.out.mono ?_; rintro e w2 ⟨rfl, hb2⟩; have HT3 := Lib.hid (HT2.out.on hb2); have HB4 := Lib.hid (HB3.out _ HT3.out); have c8 := (HT3.out.cell 8).trans (show _ = some (Value.int .i64 s2.at_) from rfl); clear hb2))
          go_quiet (first | (go_at_call 22; exact Calls.quiet_of (HB4.out _)))
          have HC := Lib.hid (HT3.out.dn nq)
          go_wp2
          refine bodyPost_ret (results_none Try.results23 _ _ _) rfl ?_
          exact ⟨⟨_, rfl⟩, v2, HZ.out _ _ _ HF.out (by rw [List.append_nil]; exact HC.out)⟩
end Go.Proofs.Ytblkdmbkkimbpaa
