/-
  Layer 7's laws: the fixed answer.
-/
import Derived.Test.YtblkdmbkkimbpaaSessOpen
import Derived.Test.YtblkdmbkkimbpaaSessLost
import Derived.Test.YtblkdmbkkimbpaaReseqOwn
namespace Go.Proofs.Ytblkdmbkkimbpaa
open Go.RowKit

def MZ (k q : Int) : Mg := { Mg.zero with kind := k, seq := q }
theorem aw7_come : ∃ s', comeS (onS 30 2 1) (lastM 5) 3 = (s', [{ resendM 2 4 with seq := 2, time := 3 }], [], false, 0) ∧ s'.st = 2 := by
  have hr : (onS 30 2 1).rightB = true := Ses.right_iff.2 (onS_R (by decide) (by decide) (by decide))
  have hm : MsgR (lastM 5) := lastM_right (by decide)
  have hc : comeR ⟨2, []⟩ (itemM (lastM 5)) = (⟨2, [itemM (lastM 5)]⟩, [], 2) := by
    unfold comeR
    rw [if_neg (by rw [empty_right (by decide), im_may hm]; decide), if_neg (show ¬ (itemM (lastM 5)).till ≤ 2 by decide), if_neg (show ¬ (itemM (lastM 5)).fr ≤ 2 by decide)]
    rfl
  have hp : replyS (hearS (onS 30 2 1) 3) (lastM 5) 3 = (hearS (onS 30 2 1) 3, []) := by
    unfold replyS
    rw [if_neg (show ¬ (lastM 5).kind = 3 by decide), if_neg (fun h => absurd (show (2 : Int) = 4 from h.1) (by decide))]
  unfold comeS
  rw [if_neg (by rw [hr, msgB_iff.2 hm]; decide), if_neg (fun h => by rcases h with h | h; exact absurd (show (2 : Int) = 0 from h) (by decide); exact absurd (show (2 : Int) = 1 from h.1) (by decide)), if_neg (fun h => absurd (show (2 : Int) = 5 from h.1) (by decide)), hp]
  dsimp only
  have hl : lineS (hearS (onS 30 2 1) 3) (lastM 5) = { hearS (onS 30 2 1) 3 with ln := ⟨2, [itemM (lastM 5)]⟩ } := by
    unfold lineS
    rw [show (hearS (onS 30 2 1) 3).ln = ⟨2, []⟩ from rfl, hc]
  rw [hl, show (hearS (onS 30 2 1) 3).ln = ⟨2, []⟩ from rfl, hc, if_neg (show ¬ (lastM 5).kind = 6 by decide)]
  exact ⟨_, rfl, rfl⟩
theorem zero_in : Exc.zero.In := ⟨by decide, by decide, by decide, by decide, Nat.zero_le _, Nat.zero_le _, Nat.zero_le _, Nat.zero_le _, Nat.zero_le _⟩
theorem mz_in {k q : Int} (hk : 0 ≤ k ∧ k ≤ 100) (hq : 0 ≤ q ∧ q ≤ 1000000) : (MZ k q).In :=
  ⟨(show -9223372036854775808 ≤ k ∧ k ≤ 9223372036854775807 by omega), (show -9223372036854775808 ≤ q ∧ q ≤ 9223372036854775807 by omega), (show -9223372036854775808 ≤ (0 : Int) ∧ (0 : Int) ≤ 9223372036854775807 by decide), (show -9223372036854775808 ≤ (0 : Int) ∧ (0 : Int) ≤ 9223372036854775807 by decide), (show -9223372036854775808 ≤ (0 : Int) ∧ (0 : Int) ≤ 9223372036854775807 by decide), Nat.zero_le _, zero_in⟩
theorem Sl.nilAny {w w' : World} {A : Option Addr} {n c k : Nat} (h : Sl w A n c k []) : Sl w' A n c k [] := ⟨h.len, h.le, h.cap, h.nil, .inl rfl⟩
theorem Sl.msg {w : World} {A : Option Addr} {n c : Nat} {l : List Mg} (h : Sl w A n c 18 (mcells l)) {k : Nat} (hk : k < l.length) : ∃ b off, A = some ⟨b, off, none⟩ ∧ ∀ j v, l[k].arr.toList[j]? = some v → w.cell? ⟨b, off + k * 18 + j, none⟩ = some v := Row.msg h.row hk
theorem Sl.msg0 {w : World} {A : Option Addr} {n c : Nat} {m : Mg} {l : List Mg} (h : Sl w A n c 18 (mcells (m :: l))) : ∃ b off, A = some ⟨b, off, none⟩ ∧ ∀ j v, m.arr.toList[j]? = some v → w.cell? ⟨b, off + j, none⟩ = some v := by
  obtain ⟨b, off, he, hr⟩ := Row.msg (k := 0) h.row (by simp)
  refine ⟨b, off, he, fun j v hv => ?_⟩
  have := hr j v hv
  rwa [Nat.zero_mul, Nat.add_zero] at this
set_option maxRecDepth 100000 in
set_option maxHeartbeats 2000000 in
theorem awake07 (C : SessC) (W : World) : Calls Try.prog 6 #[] W fun e W' => e = .returned (.bool true) ∧ Below W.heap.size W W' := by
  have H1 := Lib.hid (C.new 30 W (by decide) (by decide))
  have H2 := Lib.hid (fun (V : World) => (show Calls Try.prog 8 #[.agg (sesArr (newS 30) none 0 0), .int .i64 1] V (fun e w' => ∃ A c B d, e = .returned (.tuple #[.agg (sesArr (askedS 30 1 1) A 0 c), .slice B 1 d, .int .i64 0]) ∧ Sl w' A 0 c 20 [] ∧ Sl w' B 1 d 18 (mcells [{ logonM 30 with seq := 1, time := 1 }]) ∧ Below V.heap.size V w') from
    (C.connect (newS 30) none 0 0 1 V rfl (by decide) (Sl.none_ _ _)).mono fun e w' ⟨A, n, c, B, m, d, he, h1, h2, h3, h4, h5⟩ => by
      rw [start_connect (by decide) (by decide)] at he h1 h2 h3 h4
      obtain rfl : n = 0 := h1.symm
      obtain rfl : m = 1 := h2.symm
      exact ⟨A, c, B, d, he, h3, h4, h5⟩))
  have H3 := Lib.hid (fun (A : Option Addr) (c : Nat) (V : World) (h : Sl V A 0 c 20 []) => (show Calls Try.prog 9 #[.agg (sesArr (askedS 30 1 1) A 0 c), .agg logon1.arr, .int .i64 2] V (fun e w' => ∃ A c B d B' d', e = .returned (.tuple #[.agg (sesArr (onS 30 2 1) A 0 c), .slice B 0 d, .slice B' 0 d', .bool false, .int .i64 0]) ∧ Sl w' A 0 c 20 [] ∧ Below V.heap.size V w') from
    (C.come (askedS 30 1 1) A 0 c logon1 2 V rfl (by decide) h (mz_in (k := 1) (q := 1) (by decide) (by decide))).mono fun e w' ⟨A, n, c, B, m, d, B', m', d', he, h1, h2, h2', h3, h4, h4', h5⟩ => by
      rw [start_logon (by decide) (by decide) (by decide) (by decide)] at he h1 h2 h2' h3
      obtain rfl : n = 0 := h1.symm
      obtain rfl : m = 0 := h2.symm
      obtain rfl : m' = 0 := h2'.symm
      exact ⟨A, c, B, d, B', d', he, h3, h5⟩))
  obtain ⟨s', hs', hst⟩ := aw7_come
  have H4 := Lib.hid (fun (A : Option Addr) (c : Nat) (V : World) (h : Sl V A 0 c 20 []) => (show Calls Try.prog 9 #[.agg (sesArr (onS 30 2 1) A 0 c), .agg (lastM 5).arr, .int .i64 3] V (fun e w' => ∃ A n c B d B' d', e = .returned (.tuple #[.agg (sesArr s' A n c), .slice B 1 d, .slice B' 0 d', .bool false, .int .i64 0]) ∧ Sl w' B 1 d 18 (mcells [{ resendM 2 4 with seq := 2, time := 3 }]) ∧ Below V.heap.size V w') from
    (C.come (onS 30 2 1) A 0 c (lastM 5) 3 V rfl (by decide) h (mz_in (k := 2) (q := 5) (by decide) (by decide))).mono fun e w' ⟨A, n, c, B, m, d, B', m', d', he, h1, h2, h2', h3, h4, h4', h5⟩ => by
      rw [hs'] at he h1 h2 h2' h3 h4
      obtain rfl : m = 1 := h2.symm
      obtain rfl : m' = 0 := h2'.symm
      exact ⟨A, n, c, B, d, B', d', he, h4, h5⟩))
  have HST := Lib.hid hst
  clear hs' hst
  go_enter Try.func6, Try.ntmps6
  go_wp2_with fail
  refine H1.out.mono ?_
  rintro e w1 ⟨rfl, hb1⟩
  have HI := Lib.hid ((RI.start W).on hb1)
  clear hb1 H1
  go_upto_region 2 with (first | (refine ri_put rfl 29 (.tmp 1) (.tmp 15) rfl (sesArr (newS 30) none 0 0) rfl rfl (HI.out.add 29 (sesArr zSes none 0 0)) rfl infoS (ses_one _ _ _ _) ?_; rintro w2 hI2 -; have HI := Lib.hid hI2; clear hI2))
  go_upto_region 3 with (first | (refine wpList_load_row rfl 29 (.tmp 1) rfl _ rfl 29 _ (0, 0) _ HI.out.bx Try.underlying29 rfl infoS ?_) | (go_at_call 8; refine (H2.out _).mono ?_; rintro e w3 ⟨A1, c1, B1, d1, rfl, hs1, hm1, hb3⟩; have HI := Lib.hid (HI.out.on hb3); have HS := Lib.hid hs1; have HM1 := Lib.hid hm1; clear hb3 hs1 hm1) | (refine ri_put rfl 29 (.tmp 1) (.tmp 20) rfl (sesArr (askedS 30 1 1) A1 0 c1) rfl rfl HI.out rfl infoS (ses_one _ _ _ _) ?_; intro w2 hI2 hf2; have HM1 := Lib.hid (HM1.out.farM HI.out.bx (Nat.le_refl 10) hf2); have HI := Lib.hid hI2; clear hI2 hf2))
  go_upto_region 4 with (first | (refine wpList_load_row rfl 29 (.tmp 1) rfl _ rfl 29 _ (0, 0) _ HI.out.bx Try.underlying29 rfl infoS ?_) | (go_at_call 9; refine (H3.out _ _ _ HS.out.nilAny).mono ?_; rintro e w4 ⟨A2, c2, B2, d2, B2', d2', rfl, hs2, hb4⟩; have HI := Lib.hid (HI.out.on hb4); have HM1 := Lib.hid (HM1.out.on hb4); have HS := Lib.hid hs2; clear hb4 hs2) | (refine ri_put rfl 29 (.tmp 1) (.tmp 27) rfl (sesArr (onS 30 2 1) A2 0 c2) rfl rfl HI.out rfl infoS (ses_one _ _ _ _) ?_; intro w2 hI2 hf2; have HM1 := Lib.hid (HM1.out.farM HI.out.bx (Nat.le_refl 10) hf2); have HI := Lib.hid hI2; clear hI2 hf2))
  go_upto_region 5 with (first | (refine wpList_load_row rfl 29 (.tmp 1) rfl _ rfl 29 _ (0, 0) _ HI.out.bx Try.underlying29 rfl infoS ?_) | (go_at_call 9; refine (H4.out _ _ _ HS.out.nilAny).mono ?_; rintro e w5 ⟨A3, n3, c3, B3, d3, B3', d3', rfl, hm4, hb5⟩; have HI := Lib.hid (HI.out.on hb5); have HM1 := Lib.hid (HM1.out.on hb5); have HM4 := Lib.hid hm4; clear hb5 hm4) | (refine ri_put rfl 29 (.tmp 1) (.tmp 36) rfl (sesArr s' A3 n3 c3) rfl rfl HI.out rfl infoS (ses_one _ _ _ _) ?_; intro w2 hI2 hf2; have HM1 := Lib.hid (HM1.out.farM HI.out.bx (Nat.le_refl 10) hf2); have HM4 := Lib.hid (HM4.out.farM HI.out.bx (Nat.le_refl 10) hf2); have HI := Lib.hid hI2; clear hI2 hf2))
  obtain ⟨b1, o1, he1, hr1⟩ := HM1.out.msg0
  obtain ⟨b4, o4, he4, hr4⟩ := HM4.out.msg0
  have f1 := hr1 0 (.int .i64 1) rfl
  have f2 := hr4 0 (.int .i64 4) rfl
  have f3 := hr4 4 (.int .i64 2) rfl
  have f4 := hr4 5 (.int .i64 4) rfl
  rw [Nat.add_zero] at f1 f2
  have f5 := (HI.out.cell 0).trans (show _ = some (Value.int .i64 2) from congrArg (fun z => some (Value.int .i64 z)) HST.out)
  have hd1 : 1 ≤ d1 := HM1.out.le
  have hd1' := HM1.out.cap
  have hd3 : 1 ≤ d3 := HM4.out.le
  have hd3' := HM4.out.cap
  unfold maxLen at hd1' hd3'
  clear hr1 hr4
  subst he1
  subst he4
  go_wp2
  go_ret
  exact ⟨rfl, HI.out.below⟩
end Go.Proofs.Ytblkdmbkkimbpaa
