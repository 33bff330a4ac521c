/-
  Layer 5, msg: the program's own way: may it be one: its contracts.
-/
import Derived.Test.YtblkdmbkkimbpaaMsgLem
import Derived.Test.YtblkdmbkkimbpaaMem
import Derived.Test.YtblkdmbkkimbpaaShelf
import Derived.Handy
import Derived.WalkKit
import Derived.WalkSmall
import Derived.WalkSpells
import Derived.IntWalk
import Derived.BigQuiet
import Derived.Deep.QuietTactic
namespace Go.Proofs.Ytblkdmbkkimbpaa
open Go.RowKit

theorem own_small5 (n : Int) (w : World) : Calls Try.prog 26 #[.int .i64 n] w fun e w' => e = .returned (.bool (small n)) ∧ w = w' := by
  have H := Lib.hid (show small n = (decide (0 ≤ n) && decide (n ≤ 1099511627776)) from Bool.decide_and _ _)
  by_cases h : 0 ≤ n
  · go_enter Try.func26, Try.ntmps26
    go_wp2
    go_ret
    exact ⟨retB (by rw [H.out, decide_eq_true (show 0 ≤ n by omega), Bool.true_and]), rfl⟩
  · go_enter Try.func26, Try.ntmps26
    go_wp2
    go_ret
    exact ⟨retB (by rw [H.out, decide_eq_false (show ¬ 0 ≤ n by omega)]; rfl), rfl⟩
theorem own_time5 (n : Int) (w : World) : Calls Try.prog 27 #[.int .i64 n] w fun e w' => e = .returned (.bool (timeR n)) ∧ w = w' := by
  have H := Lib.hid (show timeR n = (decide (0 ≤ n) && decide (n ≤ 4611686018427387904)) from Bool.decide_and _ _)
  by_cases h : 0 ≤ n
  · go_enter Try.func27, Try.ntmps27
    go_wp2
    go_ret
    exact ⟨retB (by rw [H.out, decide_eq_true (show 0 ≤ n by omega), Bool.true_and]), rfl⟩
  · go_enter Try.func27, Try.ntmps27
    go_wp2
    go_ret
    exact ⟨retB (by rw [H.out, decide_eq_false (show ¬ 0 ≤ n by omega)]; rfl), rfl⟩
theorem own_inName (c : UInt8) (w : World) : Calls Try.prog 41 #[.int .u8 c.toNat] w fun e w' => e = .returned (.bool (alnum c)) ∧ w = w' := by
  rcases alnum_cases c with ⟨g, i1, i2, i3, i4, i5, i6⟩ | ⟨g, i1, i2, i3, i4, i5, i6⟩ | ⟨g, i1, i2, i3, i4, i5, i6⟩ | ⟨g, i1, i2, i3, i4, i5, i6⟩ | ⟨g, i1, i2, i3, i4, i5, i6⟩ | ⟨g, i1, i2, i3, i4, i5, i6⟩ | ⟨g, i1, i2, i3, i4, i5, i6⟩
  all_goals
    have G := Lib.hid g
    clear g
    generalize c.toNat = n at *
    go_enter Try.func41, Try.ntmps41
    go_wp2
    go_ret
    exact ⟨retB (by rw [G.out]), rfl⟩
set_option maxRecDepth 100000 in
set_option maxHeartbeats 2000000 in
theorem own_Name5 (s : ByteArray) (hs : s.size ≤ maxLen) (w : World) : Calls Try.prog 35 #[.string s] w fun e w' => e = .returned (.bool (nm s)) ∧ w = w' := by
  unfold maxLen at hs
  have HE := Lib.hid (isE s)
  have HZ := Lib.hid (eS_iff (s := s))
  have HNf := Lib.hid (show ¬ (1 ≤ s.size ∧ s.size ≤ 16) → nm s = false from fun h => by unfold nm; rw [decide_eq_false h, Bool.false_and])
  have HNt := Lib.hid (show 1 ≤ s.size ∧ s.size ≤ 16 → nm s = s.data.toList.all alnum from fun h => by unfold nm; rw [decide_eq_true h, Bool.true_and])
  by_cases h0 : s.size = 0
  · have h1 : s.toList.isEmpty = true := by rw [HE.out, decide_eq_true (HZ.out.2 h0)]
    have HF := Lib.hid (HNf.out (by omega))
    clear HNt HNf HE HZ
    go_enter Try.func35, Try.ntmps35
    go_wp2
    go_ret
    exact ⟨retB HF.out.symm, rfl⟩
  · have h1 : s.toList.isEmpty = false := by rw [HE.out, decide_eq_false (fun h => h0 (HZ.out.1 h))]
    clear HE HZ
    by_cases h16 : s.size ≤ 16
    · have HT := Lib.hid (HNt.out ⟨by omega, h16⟩)
      clear HNt HNf
      have HC := Lib.hid (fun (c : UInt8) (w : World) => own_inName c w)
      go_enter Try.func35, Try.ntmps35
      go_wp2
      go_loop [13] (fun i => ∃ k : Nat, k ≤ s.size ∧ i = .int .i64 k ∧ Hid ((s.data.toList.take k).all alnum = true)) (fun i => s.size - (intOf i).toNat)
      case atStart => exact ⟨0, Nat.zero_le _, rfl, rfl⟩
      case round =>
        obtain ⟨k, hk, rfl, H⟩ := hrel
        by_cases hlt : k < s.size
        · have Ht := Lib.hid (take_b s k hlt alnum)
          have Hb := Lib.hid (fun he => all_bad_at (p := alnum) s k hlt he)
          rcases ha : alnum s[k] with _ | _
          · have HF := Lib.hid (Hb.out ha)
            have HA := Lib.hid (fun w => show Calls _ _ _ w _ from ha ▸ HC.out s[k] w)
            clear Hb Ht ha
            go_wp2_with (go_at_call 41; refine (HA.out _).mono ?_; rintro e w' ⟨rfl, rfl⟩)
            go_ret
            exact ⟨retB (by rw [HT.out, HF.out]), rfl⟩
          · have HA := Lib.hid (fun w => show Calls _ _ _ w _ from ha ▸ HC.out s[k] w)
            have Ha := Lib.hid ha
            clear Hb ha
            go_wp2_with (go_at_call 41; refine (HA.out _).mono ?_; rintro e w' ⟨rfl, rfl⟩)
            go_round
            case rel => exact ⟨k + 1, by omega, by go_num, by rw [Ht.out, H.out, Ha.out]; rfl⟩
            case measure => simp [intOf]; omega
        · obtain rfl : k = s.size := by omega
          have hN := Lib.hid (show s.data.toList.all alnum = true by have := H.out; rwa [List.take_of_length_le (by simp)] at this)
          go_wp2
          go_ret
          exact ⟨retB (by rw [HT.out, hN.out]), rfl⟩
    · have HF := Lib.hid (HNf.out (by omega))
      clear HNt HNf
      go_enter Try.func35, Try.ntmps35
      go_wp2
      go_ret
      exact ⟨retB HF.out.symm, rfl⟩
theorem own_text5 (s : ByteArray) (hs : s.size ≤ maxLen) (w : World) : Calls Try.prog 28 #[.string s] w fun e w' => e = .returned (.bool (textB s)) ∧ w = w' := by
  unfold maxLen at hs
  have HT := Lib.hid (show textB s = (decide (s.size ≤ 64) && no1 s.data.toList) from rfl)
  have Hi : Hid (∀ w, Calls Try.prog 34 #[.string s, .int .u8 1] w fun e w' => e = .returned (.int .i64 (Lib.indexByte s.data.toList 1)) ∧ w = w') := fun w =>
    (Try.strings_IndexByte s 1 w).mono fun _ _ ⟨he, hw⟩ => ⟨he, hw.symm⟩
  have Hn := Lib.hid (index_no1 s.data.toList)
  generalize Lib.indexByte s.data.toList 1 = ix at *
  by_cases h : s.size ≤ 64
  · go_enter Try.func28, Try.ntmps28
    go_wp2_with (go_at_call 34; refine (Hi.out _).mono ?_; rintro e w' ⟨rfl, rfl⟩)
    go_ret
    exact ⟨retB (by rw [HT.out, Hn.out, decide_eq_true h, Bool.true_and]), rfl⟩
  · go_enter Try.func28, Try.ntmps28
    go_wp2
    go_ret
    exact ⟨retB (by rw [HT.out, decide_eq_false h]; rfl), rfl⟩
theorem own_ref5 (x : Exc) (hx : x.In) (w : World) : Calls Try.prog 36 #[x.val] w fun e w' => e = .returned (.bool (refB x)) ∧ Below w.heap.size w w' := by
  have h2 := hx.ref
  have HR := Lib.hid (show (refK x.kind = true → refB x = nm x.ref) ∧ (refK x.kind = false → refB x = decide (x.ref = eS)) from ⟨fun h => by unfold refB; rw [if_pos h], fun h => by unfold refB; rw [if_neg (by rw [h]; decide)]⟩)
  have HK := Lib.hid (show refK x.kind = decide (x.kind = 4 ∨ x.kind = 7 ∨ x.kind = 8) from rfl)
  have HE := Lib.hid (isE x.ref)
  obtain ⟨id, ref, order, account, symbol, kind, buy, qty, price, time⟩ := x
  unfold Exc.val
  dsimp only at *
  clear hx
  have HN := Lib.hid (own_Name5 ref h2)
  generalize refB ⟨id, ref, order, account, symbol, kind, buy, qty, price, time⟩ = rb at *
  generalize refK kind = rk at *
  by_cases hk : kind = 4 ∨ kind = 7 ∨ kind = 8
  · have HF := Lib.hid (HR.out.1 (by rw [HK.out, decide_eq_true hk]))
    clear HR HK HE
    rcases hk with rfl | rfl | rfl
    all_goals
      go_enter Try.func36, Try.ntmps36
      go_wp2_with (go_at_call 35; refine (HN.out _).mono ?_; rintro e w' ⟨rfl, rfl⟩)
      go_ret
      exact ⟨retB HF.out.symm, (Below.refl _ _).alloc (Nat.le_refl _) _⟩
  · have HF := Lib.hid (HR.out.2 (by rw [HK.out, decide_eq_false hk]))
    clear HR HK HN
    have k4 : (kind == 4) = false := by rw [beq_eq_false_iff_ne]; omega
    have k7 : (kind == 7) = false := by rw [beq_eq_false_iff_ne]; omega
    have k8 : (kind == 8) = false := by rw [beq_eq_false_iff_ne]; omega
    clear hk
    go_enter Try.func36, Try.ntmps36
    go_wp2
    go_ret
    exact ⟨retB (by rw [HF.out, HE.out]), (Below.refl _ _).alloc (Nat.le_refl _) _⟩
set_option maxRecDepth 100000 in
set_option maxHeartbeats 4000000 in
theorem own_Exec5 (x : Exc) (hx : x.In) (w : World) : Calls Try.prog 29 #[x.val] w fun e w' => e = .returned (.bool (excB x)) ∧ Below w.heap.size w w' := by
  have HR := Lib.hid (own_ref5 x hx)
  obtain ⟨id, ref, order, account, symbol, kind, buy, qty, price, time⟩ := x
  have h1 := hx.id
  have h3 := hx.order
  have h4 := hx.account
  have h5 := hx.symbol
  unfold Exc.val at *
  dsimp only at h1 h3 h4 h5 ⊢
  clear hx
  have HB := Lib.hid (show excB ⟨id, ref, order, account, symbol, kind, buy, qty, price, time⟩ = (decide (1 ≤ kind ∧ kind ≤ 8) && (nm id && (nm order && (nm account && (nm symbol && (refB ⟨id, ref, order, account, symbol, kind, buy, qty, price, time⟩ && (small qty && (small price && timeR time)))))))) from rfl)
  generalize excB ⟨id, ref, order, account, symbol, kind, buy, qty, price, time⟩ = xb at *
  generalize refB ⟨id, ref, order, account, symbol, kind, buy, qty, price, time⟩ = rb at *
  go_enter Try.func29, Try.ntmps29
  go_wp2_with (first | (go_at_call 35; refine (own_Name5 _ (by assumption) _).mono ?_; rintro e w' ⟨rfl, rfl⟩) | (go_at_call 26; refine (own_small5 _ _).mono ?_; rintro e w' ⟨rfl, rfl⟩) | (go_at_call 27; refine (own_time5 _ _).mono ?_; rintro e w' ⟨rfl, rfl⟩) | (go_at_call 36; refine (HR.out _).mono ?_; rintro e w1 ⟨rfl, hb1⟩; (obtain ⟨hc1, hf1⟩ := bcell hb1; have hz1 := hb1.size; (repeat (first | rw [World.size_alloc] at hz1 | rw [World.size_setCell] at hz1 | rw [World.size_drew] at hz1)); have hB1 : Below w.heap.size w w1 := Below.trans (by go_grown) (hb1.mono (by go_size)))))
  all_goals
    go_ret
    refine ⟨retB ?_, by go_grown⟩
    rw [HB.out]
    first
    | (simp_all; done)
    | (simp_all; omega)
    | trace_state
end Go.Proofs.Ytblkdmbkkimbpaa
