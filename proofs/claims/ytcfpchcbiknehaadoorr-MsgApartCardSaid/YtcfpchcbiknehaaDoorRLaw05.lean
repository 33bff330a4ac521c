/-
  Layer 5's laws: the fixed answer.
-/
import Derived.Test.YtcfpchcbiknehaaDoorRMsgOwnGet
import Derived.Test.YtcfpchcbiknehaaDoorRMo
import Derived.Test.YtcfpchcbiknehaaDoorRFieldOpen
namespace Go.Proofs.YtcfpchcbiknehaaDoorR
open Go.RowKit

theorem show_d1 (n : Nat) (h : n < 10) : showL (n : Int) = [UInt8.ofNat (48 + n)] := by
  unfold showL
  rw [if_pos (right_t (by omega) (by omega)), Lib.itoa, if_neg (by omega), Int.toNat_natCast, Lib.decDigits_one h]
theorem show_d2 (n : Nat) (h1 : ¬ n < 10) (h : n < 100) : showL (n : Int) = [UInt8.ofNat (48 + n / 10), UInt8.ofNat (48 + n % 10)] := by
  unfold showL
  rw [if_pos (right_t (by omega) (by omega)), Lib.itoa, if_neg (by omega), Int.toNat_natCast, Lib.decDigits_two h1 h]
def mb5 : Mg := ⟨2, 2, 7, false, 0, 0, false, eS, Exc.zero⟩
def mc5 : Mg := ⟨4, 3, 0, true, 1, 0, false, eS, Exc.zero⟩
def bb5 : List UInt8 := [51, 53, 61, 48, 1, 51, 52, 61, 50, 1, 53, 50, 61, 55, 1]
def bc5 : List UInt8 := [51, 53, 61, 50, 1, 51, 52, 61, 51, 1, 53, 50, 61, 48, 1, 52, 51, 61, 89, 1, 55, 61, 49, 1, 49, 54, 61, 48, 1]
theorem mb5_right : MsgR mb5 := by
  unfold mb5; rw [msgR_iff]; refine ⟨⟨by decide, by decide, by decide, by decide, by decide, by decide⟩, ?_, ?_, ?_, ?_, ?_, ?_, ?_, ?_⟩ <;> simp
theorem mc5_right : MsgR mc5 := by
  unfold mc5; rw [msgR_iff]; refine ⟨⟨by decide, by decide, by decide, by decide, by decide, by decide⟩, ?_, ?_, ?_, ?_, ?_, ?_, ?_, ?_⟩ <;> simp
theorem mb5_put : putL (msgL mb5) = bb5 := by
  have h35 : showL 35 = [51, 53] := show_d2 35 (by omega) (by omega)
  have h34 : showL 34 = [51, 52] := show_d2 34 (by omega) (by omega)
  have h52 : showL 52 = [53, 50] := show_d2 52 (by omega) (by omega)
  have h2 : showL 2 = [50] := show_d1 2 (by omega)
  have h7 : showL 7 = [55] := show_d1 7 (by omega)
  have hl : msgL mb5 = [⟨35, ⟨#[48]⟩⟩, ⟨34, nmV 2⟩, ⟨52, nmV 7⟩] := rfl
  rw [hl]
  simp only [putL, List.flatMap_cons, List.flatMap_nil, fldB, h35, h34, h52, nmV_list, h2, h7]
  rfl
theorem mc5_put : putL (msgL mc5) = bc5 := by
  have h35 : showL 35 = [51, 53] := show_d2 35 (by omega) (by omega)
  have h34 : showL 34 = [51, 52] := show_d2 34 (by omega) (by omega)
  have h52 : showL 52 = [53, 50] := show_d2 52 (by omega) (by omega)
  have h43 : showL 43 = [52, 51] := show_d2 43 (by omega) (by omega)
  have h16 : showL 16 = [49, 54] := show_d2 16 (by omega) (by omega)
  have h7 : showL 7 = [55] := show_d1 7 (by omega)
  have h3 : showL 3 = [51] := show_d1 3 (by omega)
  have h0 : showL 0 = [48] := show_d1 0 (by omega)
  have h1 : showL 1 = [49] := show_d1 1 (by omega)
  have hl : msgL mc5 = [⟨35, ⟨#[50]⟩⟩, ⟨34, nmV 3⟩, ⟨52, nmV 0⟩, ⟨43, yV⟩, ⟨7, nmV 1⟩, ⟨16, nmV 0⟩] := rfl
  rw [hl]
  simp only [putL, List.flatMap_cons, List.flatMap_nil, fldB, h35, h34, h52, h43, h16, h7, nmV_list, h3, h0, h1]
  rfl
theorem Sl.cutTo5 {w : World} {A : Option Addr} {n c m : Nat} {l : List UInt8} (h : Sl w A n c 1 (bcells l)) (hl : l.length = n) (hm : m ≤ n) : Sl w A m c 1 (bcells (l.take m)) :=
  ⟨by rw [bcells_len]; simp; omega, by have := h.le; omega, h.cap, fun e => ⟨by have := (h.nil e).1; omega, (h.nil e).2⟩, by rw [← bcells_take]; exact h.row.take m⟩
theorem convConst5 (W : World) (C : Array Value) (n m m' : Nat) (hm : C.size = m) (hm' : m' = m + 1) : (convert 28 28 (.slice (some ⟨W.heap.size, 0, none⟩) n n)).run Tryd.prog (W.alloc (.cells C 5)) = .ok (.slice (some ⟨W.heap.size, 0, none⟩) n n) (W.alloc (.cells C 5 (m, m'))) := by
  subst hm; subst hm'
  exact Lib.run_convert_bytes_const W _ _ C n n Tryd.underlying28 Tryd.underlying5
theorem mo_lit5 (w : World) (base : Nat) (hb : base ≤ w.heap.size) (cs : Array Value) (t : TypeId) (n m m' : Nat) (l : List UInt8) (hs : cs.size = n) (hm : m = n) (hx : cs.toList = bcells l) (hn : n ≤ maxLen) : Mo (w.alloc (.cells cs t (m, m'))) base (.slice (some ⟨w.heap.size, 0, none⟩) n n) n (bcells l) :=
  Mo.of_block hb (heap_alloc_new w (.cells cs t (m, m'))) (.inr (show cs.size ≤ m by omega)) hs (show cs.toList.take n = bcells l by rw [← hx]; exact List.take_of_length_le (by rw [Array.length_toList]; omega)) (Nat.le_refl _) hn
theorem mo_sl5 {w : World} {base n g c : Nat} {xs : List Value} (h : Mo w base (.slice (some ⟨g, 0, none⟩) n c) n xs) : Sl w (some ⟨g, 0, none⟩) n c 1 xs := by
  obtain ⟨g', c', hv, hs, _⟩ := h.sl
  injection hv with hv1 _ hv2
  injection hv1 with hv1
  injection hv1 with hv1 _ _
  subst hv1; subst hv2
  exact hs
set_option maxRecDepth 100000 in
set_option maxHeartbeats 4000000 in
theorem awake05 (w : World) (hctx : FCtx w) : Calls Tryd.prog 6 #[] w fun e w' => e = .returned (.bool true) ∧ Below w.heap.size w w' := by
  have k29 := fun W : World => convConst5 W #[.int .u8 51, .int .u8 53, .int .u8 61, .int .u8 50, .int .u8 1, .int .u8 51, .int .u8 52, .int .u8 61, .int .u8 51, .int .u8 1, .int .u8 53, .int .u8 50, .int .u8 61, .int .u8 48, .int .u8 1, .int .u8 52, .int .u8 51, .int .u8 61, .int .u8 89, .int .u8 1, .int .u8 55, .int .u8 61, .int .u8 49, .int .u8 1, .int .u8 49, .int .u8 54, .int .u8 61, .int .u8 48, .int .u8 1] 29 29 30 rfl rfl
  have HP := Lib.hid (show Calls Tryd.prog 8 #[mb5.val] w fun e w' => ∃ A n c, e = .returned (.tuple #[.slice A n c, .int .i64 0]) ∧ Sl w' A n c 1 (bcells bb5) ∧ Below w.heap.size w w' from
    (own_Put5 mb5 ⟨by decide, by decide, by decide, by decide, by decide, Nat.zero_le _, Exc.zero_in⟩ w hctx).mono fun e w' ⟨A, n, c, he, hs, hb⟩ => by
      have hm := msgB_iff.2 mb5_right
      unfold mPutE at he; unfold mPutV at hs
      rw [hm] at he hs
      simp only [if_true] at he hs
      rw [mb5_put] at hs
      exact ⟨A, n, c, he, hs, hb⟩)
  have HR := Lib.hid (fun (W : World) (hc : FCtx W) => (show Calls Tryd.prog 16 #[.slice (some ⟨W.heap.size, 0, none⟩) 29 29] (W.alloc (.cells #[.int .u8 51, .int .u8 53, .int .u8 61, .int .u8 50, .int .u8 1, .int .u8 51, .int .u8 52, .int .u8 61, .int .u8 51, .int .u8 1, .int .u8 53, .int .u8 50, .int .u8 61, .int .u8 48, .int .u8 1, .int .u8 52, .int .u8 51, .int .u8 61, .int .u8 89, .int .u8 1, .int .u8 55, .int .u8 61, .int .u8 49, .int .u8 1, .int .u8 49, .int .u8 54, .int .u8 61, .int .u8 48, .int .u8 1] 5 (29, 30))) fun e w' => e = Ending.returned (.tuple #[mc5.val, .int .i64 0]) ∧ Below W.heap.size W w' from by
    have hB0 := (Below.refl W.heap.size W).alloc (Nat.le_refl _) (.cells #[.int .u8 51, .int .u8 53, .int .u8 61, .int .u8 50, .int .u8 1, .int .u8 51, .int .u8 52, .int .u8 61, .int .u8 51, .int .u8 1, .int .u8 53, .int .u8 50, .int .u8 61, .int .u8 48, .int .u8 1, .int .u8 52, .int .u8 51, .int .u8 61, .int .u8 89, .int .u8 1, .int .u8 55, .int .u8 61, .int .u8 49, .int .u8 1, .int .u8 49, .int .u8 54, .int .u8 61, .int .u8 48, .int .u8 1] 5 (29, 30))
    have hs := mo_sl5 (mo_lit5 W W.heap.size (Nat.le_refl _) #[.int .u8 51, .int .u8 53, .int .u8 61, .int .u8 50, .int .u8 1, .int .u8 51, .int .u8 52, .int .u8 61, .int .u8 51, .int .u8 1, .int .u8 53, .int .u8 50, .int .u8 61, .int .u8 48, .int .u8 1, .int .u8 52, .int .u8 51, .int .u8 61, .int .u8 89, .int .u8 1, .int .u8 55, .int .u8 61, .int .u8 49, .int .u8 1, .int .u8 49, .int .u8 54, .int .u8 61, .int .u8 48, .int .u8 1] 5 29 29 30 bc5 rfl rfl rfl (by decide))
    have := own_Read5 (some ⟨W.heap.size, 0, none⟩) 29 bc5 _ hs (by decide) (hc.on hB0)
    refine this.mono fun e w' ⟨he, hb⟩ => ?_
    have h := mRead_put mc5_right
    rw [mc5_put] at h
    rw [h.1, h.2] at he
    exact ⟨he, hB0.trans (hb.mono (by simp))⟩))
  have hv1 : mb5.val = .agg #[.int .i64 2, .int .i64 2, .int .i64 7, .bool false, .int .i64 0, .int .i64 0, .bool false, .string ⟨#[]⟩, .string ⟨#[]⟩, .string ⟨#[]⟩, .string ⟨#[]⟩, .string ⟨#[]⟩, .string ⟨#[]⟩, .int .i64 0, .bool false, .int .i64 0, .int .i64 0, .int .i64 0] := rfl
  have hv2 : mc5.val = .agg #[.int .i64 4, .int .i64 3, .int .i64 0, .bool true, .int .i64 1, .int .i64 0, .bool false, .string ⟨#[]⟩, .string ⟨#[]⟩, .string ⟨#[]⟩, .string ⟨#[]⟩, .string ⟨#[]⟩, .string ⟨#[]⟩, .int .i64 0, .bool false, .int .i64 0, .int .i64 0, .int .i64 0] := rfl
  rw [hv1] at HP
  rw [hv2] at HR
  clear hv1 hv2
  go_enter Tryd.func6, Tryd.ntmps6
  go_wp2_with fail
  refine HP.out.mono ?_
  rintro e w1 ⟨A1, n1, c1, rfl, hs1, hb1⟩
  go_wp2_with fail
  refine (HR.out _ (hctx.on hb1)).mono ?_
  rintro e w2 ⟨rfl, hb2⟩
  have hB2 : Below w.heap.size w w2 := hb1.trans (hb2.mono hb1.size)
  have HI := Lib.hid (((RI.start w2).add 25 #[.int .i64 0, .int .i64 0, .int .i64 0, .bool false, .int .i64 0, .int .i64 0, .bool false, .string ⟨#[]⟩, .string ⟨#[]⟩, .string ⟨#[]⟩, .string ⟨#[]⟩, .string ⟨#[]⟩, .string ⟨#[]⟩, .int .i64 0, .bool false, .int .i64 0, .int .i64 0, .int .i64 0]))
  clear HP HR
  go_upto_region 3 with (first | (refine ri_store rfl 25 (.tmp 3) (.tmp 14) rfl 0 #[.int .i64 4, .int .i64 3, .int .i64 0, .bool true, .int .i64 1, .int .i64 0, .bool false, .string ⟨#[]⟩, .string ⟨#[]⟩, .string ⟨#[]⟩, .string ⟨#[]⟩, .string ⟨#[]⟩, .string ⟨#[]⟩, .int .i64 0, .bool false, .int .i64 0, .int .i64 0, .int .i64 0] rfl rfl HI.out (Nat.le_refl 18) infoM (arr_one mc5) ?_; go_must (intro w3 hI3; clear HI; have HI := Lib.hid hI3; clear hI3; simp [setAll] at HI)))
  have hB3 : Below w.heap.size w _ := hB2.trans (HI.out.below.mono hB2.size)
  have hcv := conv_sl ((hs1.on hb2).on HI.out.below)
  clear hs1
  go_wp2_with (first | (go_guarded; refine box_load HI.out.bx 25 (.tmp 3) rfl rfl _ Tryd.underlying25 rfl infoM ?_) | (go_guarded; refine wp_eqM _ _ rfl mc5 ⟨4, 3, 0, true, 1, 0, false, eS, Exc.zero⟩ rfl rfl ?_))
  go_ret
  exact ⟨rfl, hB3⟩
end Go.Proofs.YtcfpchcbiknehaaDoorR
