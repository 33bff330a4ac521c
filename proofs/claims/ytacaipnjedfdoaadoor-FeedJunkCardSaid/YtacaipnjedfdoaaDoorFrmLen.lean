/-
  Layer 3, frame: the contracts of starts and of length.
-/
import Derived.Test.YtacaipnjedfdoaaDoorFrmText
import Derived.Test.YtacaipnjedfdoaaDoorFrmSum
import Derived.Test.YtacaipnjedfdoaaDoorWalk
import Derived.Deep.RegionHeld3
namespace Go.Proofs.YtacaipnjedfdoaaDoor
open Go.RowKit

set_option maxRecDepth 100000 in
theorem frame_starts (A : Option Addr) (n c : Nat) (bs : List UInt8) (w : World) (h : Sl w A n c 1 (bcells bs)) (hn : bs.length = n) :
    Calls Tryd.prog 18 #[.slice A n c] w fun e w' => e = .returned (.bool (starts3 bs)) ∧ w = w' := by
  have hcv := conv_sl h
  have hle := h.le
  have hcm := h.cap
  unfold maxLen at hcm
  by_cases h12 : n < 12
  · have hs := Lib.hid (show Lib.hasPrefix begL bs = starts3 bs by unfold starts3; rw [decide_eq_true (by omega)]; rfl)
    have hp : Hid (Calls Tryd.prog 28 #[.string ⟨#[56, 61, 70, 73, 88, 46, 52, 46, 52, 1, 57, 61]⟩, .string ⟨bs.toArray⟩] w fun e w' => e = .returned (.bool (starts3 bs)) ∧ w = w') :=
      (Tryd.strings_HasPrefix ⟨#[56, 61, 70, 73, 88, 46, 52, 46, 52, 1, 57, 61]⟩ ⟨bs.toArray⟩ w).mono fun e w' ⟨he, hw⟩ => ⟨by rw [he, ← hs.out]; rfl, hw.symm⟩
    clear hs h
    go_enter Tryd.func18, Tryd.ntmps18
    go_wp2_with (go_at_call 28; refine hp.out.mono ?_; rintro e w' ⟨rfl, rfl⟩)
    go_ret
    exact ⟨rfl, rfl⟩
  · have hs := Lib.hid (show starts3 bs = false by unfold starts3; rw [decide_eq_false (by omega)]; rfl)
    clear h
    go_enter Tryd.func18, Tryd.ntmps18
    go_wp2
    go_ret
    exact ⟨retB hs.out.symm, rfl⟩
def lenV (d : List UInt8) : Nat := if lenB d = true then decA 0 d else 0
theorem lenV_pos {d : List UInt8} (h : lenB d = true) : lenV d = decA 0 d := by unfold lenV; rw [if_pos h]
theorem lenV_neg {d : List UInt8} (h : lenB d = false) : lenV d = 0 := by unfold lenV; rw [if_neg (by rw [h]; decide)]
theorem retIB {a a' : Int} {b b' : Bool} (h : a = a') (g : b = b') : Ending.returned (.tuple #[.int .i64 a, .bool b]) = .returned (.tuple #[.int .i64 a', .bool b']) := by rw [h, g]
set_option maxRecDepth 100000 in
set_option maxHeartbeats 1000000 in
theorem frame_length (A : Option Addr) (n c : Nat) (ds : List UInt8) (w : World) (h : Sl w A n c 1 (bcells ds)) (hn : ds.length = n) (hctx : FCtx w) :
    Calls Tryd.prog 22 #[.slice A n c] w fun e w' => e = .returned (.tuple #[.int .i64 (lenV ds), .bool (lenB ds)]) ∧ Below w.heap.size w w' := by
  have hle := h.le
  have hcm := h.cap
  unfold maxLen at hcm
  by_cases h4 : 4 < n
  · have hb := Lib.hid (show lenB ds = false by unfold lenB; rw [decide_eq_false (by omega)]; rfl)
    have hv := Lib.hid (lenV_neg hb.out)
    clear h
    go_enter Tryd.func22, Tryd.ntmps22
    go_wp2
    go_ret2
    exact ⟨retIB (by rw [hv.out]; rfl) hb.out.symm, Below.refl _ _⟩
  · have hcv0 := conv_sl h
    have hcv : Hid (∀ W, Below w.heap.size w W → (convert 22 9 (.slice A n c)).run Tryd.prog W = .ok (.string ⟨ds.toArray⟩) W) := fun W hW => conv_sl (h.on hW)
    have hrs : Hid (∀ (v : Int) W, Calls Tryd.prog 24 #[.int .i64 v] W fun e w' => e = .returned (.bool (decide (1 ≤ v ∧ v ≤ 8000))) ∧ W = w') := fun v W => frame_rightSize v _ rfl W
    have hs18 : (⟨ds.toArray⟩ : ByteArray).size ≤ 18 := by show ds.toArray.size ≤ 18; simp; omega
    clear h
    rcases len_cases ds with ⟨hb, ha, h1, h8, hi⟩ | ⟨hb, ha⟩
    · have hat : Hid (Calls Tryd.prog 31 #[.string ⟨ds.toArray⟩] w fun e w' => e = .returned (.tuple #[.int .i64 (decA 0 ds : Nat), .nilIface]) ∧ Below w.heap.size w w') :=
        (Tryd.strconv_Atoi ⟨ds.toArray⟩ _ hs18 ha w).mono fun e w' ⟨he, t, hw⟩ => ⟨he, by rw [hw]; exact Go.Joins.below_bytesWorld _ _ _ _ (Nat.le_refl _)⟩
      have hit : Hid (∀ W, Below w.heap.size w W → Calls Tryd.prog 14 #[.int .i64 (decA 0 ds : Nat)] W fun e w' => e = .returned (.string ⟨ds.toArray⟩) ∧ (convert 22 9 (.slice A n c)).run Tryd.prog w' = .ok (.string ⟨ds.toArray⟩) w' ∧ Below w.heap.size w w') := fun W hW =>
        (Tryd.strconv_Itoa (decA 0 ds : Nat) (by omega) (by omega) W (hctx.on hW).1.1).mono fun e w' ⟨he, k, os, hw⟩ => by
          have hb' : Below w.heap.size w w' := hW.trans ((by rw [hw]; exact Lib.below_grow _ _ (Nat.le_refl _) _ _ : Below W.heap.size W w').mono hW.size)
          exact ⟨by rw [he, hi], hcv.out w' hb', hb'⟩
      have hrs1 : Hid (∀ W, Calls Tryd.prog 24 #[.int .i64 (decA 0 ds : Nat)] W fun e w' => e = .returned (.bool true) ∧ W = w') := fun W => frame_rightSize _ _ (decide_eq_true (by omega)).symm W
      have HV := Lib.hid (lenV_pos hb)
      have HB := Lib.hid hb
      clear hb ha hi hs18 hrs h1 h8
      generalize decA 0 ds = v at *
      generalize (⟨ds.toArray⟩ : ByteArray) = S at *
      go_enter Tryd.func22, Tryd.ntmps22
      go_wp2_with (go_at_call 31; refine hat.out.mono ?_; rintro e w1 ⟨rfl, hb1⟩)
      have hc1 := hcv.out w1 hb1
      have hc1d := hcv.out w1.drew hb1.drew
      clear hat
      go_region_held3 (fun w' => (convert 22 9 (.slice A n c)).run Tryd.prog w' = .ok (.string S) w' ∧ Below w.heap.size w w') (first | (exact ⟨hc1d, hb1.drew⟩) | (exact ⟨by assumption, by assumption⟩) | go_keep) (first | (go_at_call 24; refine (hrs1.out _).mono ?_; rintro e w' ⟨rfl, rfl⟩) | (go_at_call 14; refine (hit.out _ (by first | assumption | exact hb1.drew)).mono ?_; rintro e w' ⟨rfl, hx, hbb⟩))
      all_goals
        go_wp2
        go_ret2
        exact ⟨retIB (by rw [HV.out]) HB.out.symm, by assumption⟩
    · have HV := Lib.hid (lenV_neg hb)
      have HB := Lib.hid hb
      clear hb
      rcases ha with ha | ⟨v, ha, hbad⟩
      · obtain ⟨t, p, hsy⟩ := hctx.1.2.1
        have hat : Hid (Calls Tryd.prog 31 #[.string ⟨ds.toArray⟩] w fun e w' => ∃ N, e = .returned (.tuple #[.int .i64 0, .iface 97 (.pointer (some ⟨N, 0, none⟩))]) ∧ Below w.heap.size w w') :=
          (Tryd.strconv_Atoi_err_var ⟨ds.toArray⟩ hs18 ha t p w hsy).mono fun e w' ⟨N, he, _, _, hw⟩ => ⟨N, he, hw⟩
        clear ha hsy hs18 hrs
        go_enter Tryd.func22, Tryd.ntmps22
        go_wp2_with (go_at_call 31; refine hat.out.mono ?_; rintro e w1 ⟨N, rfl, hb1⟩)
        go_quiet (fail)
        go_wp2
        go_ret2
        exact ⟨retIB (by rw [HV.out]; rfl) HB.out.symm, ⟨hb1.os, hb1.tape, hb1.output, hb1.size, hb1.block⟩⟩
      · have hat : Hid (Calls Tryd.prog 31 #[.string ⟨ds.toArray⟩] w fun e w' => e = .returned (.tuple #[.int .i64 v, .nilIface]) ∧ Below w.heap.size w w') :=
          (Tryd.strconv_Atoi ⟨ds.toArray⟩ _ hs18 ha w).mono fun e w' ⟨he, t, hw⟩ => ⟨he, by rw [hw]; exact Go.Joins.below_bytesWorld _ _ _ _ (Nat.le_refl _)⟩
        clear ha hs18
        rcases hbad with hbad | ⟨hr, hne⟩
        · have hrs1 : Hid (∀ W, Calls Tryd.prog 24 #[.int .i64 v] W fun e w' => e = .returned (.bool false) ∧ W = w') := fun W => frame_rightSize _ _ (decide_eq_false hbad).symm W
          clear hrs hbad
          go_enter Tryd.func22, Tryd.ntmps22
          go_wp2_with (go_at_call 31; refine hat.out.mono ?_; rintro e w1 ⟨rfl, hb1⟩)
          have hq := fun W => (hrs1.out W).mono fun e w' (h : _ ∧ W = w') => (⟨h.1, h.2.symm⟩ : _ ∧ w' = W)
          go_quiet (first | (go_at_call 24; exact Calls.quiet_of_same (hq _)))
          go_wp2
          go_ret2
          exact ⟨retIB (by rw [HV.out]; rfl) HB.out.symm, ⟨hb1.os, hb1.tape, hb1.output, hb1.size, hb1.block⟩⟩
        · have hit : Hid (∀ W, Below w.heap.size w W → Calls Tryd.prog 14 #[.int .i64 v] W fun e w' => e = .returned (.string ⟨(Lib.itoa v).toArray⟩) ∧ (convert 22 9 (.slice A n c)).run Tryd.prog w' = .ok (.string ⟨ds.toArray⟩) w' ∧ Below w.heap.size w w') := fun W hW =>
            (Tryd.strconv_Itoa v (by omega) (by omega) W (hctx.on hW).1.1).mono fun e w' ⟨he, k, os, hw⟩ => by
              have hb' : Below w.heap.size w w' := hW.trans ((by rw [hw]; exact Lib.below_grow _ _ (Nat.le_refl _) _ _ : Below W.heap.size W w').mono hW.size)
              exact ⟨he, hcv.out w' hb', hb'⟩
          have hrs1 : Hid (∀ W, Calls Tryd.prog 24 #[.int .i64 v] W fun e w' => e = .returned (.bool true) ∧ W = w') := fun W => frame_rightSize _ _ (decide_eq_true hr).symm W
          have hS1 : ((⟨(Lib.itoa v).toArray⟩ : ByteArray).toList == (⟨ds.toArray⟩ : ByteArray).toList) = false := by
            rw [ByteArray.toList_eq, ByteArray.toList_eq]; simpa using hne
          clear hrs hne hr
          generalize (⟨(Lib.itoa v).toArray⟩ : ByteArray) = S2 at *
          generalize (⟨ds.toArray⟩ : ByteArray) = S at *
          go_enter Tryd.func22, Tryd.ntmps22
          go_wp2_with (go_at_call 31; refine hat.out.mono ?_; rintro e w1 ⟨rfl, hb1⟩)
          have hc1 := hcv.out w1 hb1
          have hc1d := hcv.out w1.drew hb1.drew
          clear hat
          go_region_held3 (fun w' => (convert 22 9 (.slice A n c)).run Tryd.prog w' = .ok (.string S) w' ∧ Below w.heap.size w w') (first | (exact ⟨hc1d, hb1.drew⟩) | (exact ⟨by assumption, by assumption⟩) | go_keep) (first | (go_at_call 24; refine (hrs1.out _).mono ?_; rintro e w' ⟨rfl, rfl⟩) | (go_at_call 14; refine (hit.out _ (by first | assumption | exact hb1.drew)).mono ?_; rintro e w' ⟨rfl, hx, hbb⟩))
          all_goals
            go_wp2
            go_ret2
            exact ⟨retIB (by rw [HV.out]; rfl) HB.out.symm, by assumption⟩
end Go.Proofs.YtacaipnjedfdoaaDoor
