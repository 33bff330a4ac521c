/-
  Layer 5's laws: the walk of MsgReads.
-/
import Derived.Test.YtioagepalfiioaaDoorLaw05
import Derived.Test.YtioagepalfiioaaDoorMsgRead
namespace Go.Proofs.YtioagepalfiioaaDoor
open Go.RowKit

set_option maxRecDepth 100000 in
set_option maxHeartbeats 4000000 in
theorem walk_MsgReads (A : Option Addr) (n c : Nat) (bs : List UInt8) (hn : bs.length = n) (w : World) (h : Sl w A n c 1 (bcells bs)) (hctx : FCtx w) :
    Calls Tryd.prog 3 #[.slice A n c] w fun e w' => e = .returned (.bool true) ∧ Below w.heap.size w w' := by
  obtain ⟨ys, e, hs, hl⟩ : ∃ ys : List UInt8, (min (n : Int) 3000).toNat = ys.length ∧ Sl w A ys.length c 1 (bcells ys) ∧ ys.length ≤ 3000 := by
    refine ⟨bs.take 3000, by simp [hn]; omega, ?_, by simp; omega⟩
    have := h.cutTo5 (m := (bs.take 3000).length) hn (by simp; omega)
    rwa [show bs.take (bs.take 3000).length = bs.take 3000 by rw [List.length_take, ← List.take_eq_take_min]] at this
  have hcm : c ≤ 9223372036854775807 := by have := h.cap; unfold maxLen at this; omega
  have hnc := h.le
  have hyc := hs.le
  have HS := Lib.hid (fun (W : World) (hb : Below w.heap.size w W) => hs.on hb)
  have HR := Lib.hid (fun (bb : List (Nat × TypeId × Array Value)) (W : World) (hI : RI w bb W) => (own_Read5 A c ys W (HS.out W hI.below) (by omega) (hctx.on hI.below)).mono fun e W' ⟨he, hb⟩ => (show e = Ending.returned (.tuple #[(mReadV ys).val, .int .i64 (mReadE ys)]) ∧ RI w bb W' from ⟨he, hI.on hb⟩))
  have HF := Lib.hid (fun (bb : List (Nat × TypeId × Array Value)) (W : World) (hI : RI w bb W) => (ref_Read5 A c ys W (HS.out W hI.below) (by omega)).mono fun e W' ⟨he, hb⟩ => (show e = Ending.returned (.tuple #[(mReadV ys).val, .int .i64 (mReadE ys)]) ∧ RI w bb W' from ⟨he, hI.on hb⟩))
  have HA := Lib.hid (awake05 w hctx)
  clear h hs hn hctx HS
  generalize hmv : mReadV ys = mv at *
  clear hmv
  generalize mReadE ys = er at *
  obtain ⟨kindx, seqx, timex, copyx, ax, bx, gapx, textx, ⟨idx, refx, orderx, accountx, symbolx, kx, buyx, qtyx, pricex, tmx⟩⟩ := mv
  rw [show (Mg.val ⟨kindx, seqx, timex, copyx, ax, bx, gapx, textx, ⟨idx, refx, orderx, accountx, symbolx, kx, buyx, qtyx, pricex, tmx⟩⟩) = .agg #[.int .i64 kindx, .int .i64 seqx, .int .i64 timex, .bool copyx, .int .i64 ax, .int .i64 bx, .bool gapx, .string textx, .string idx, .string refx, .string orderx, .string accountx, .string symbolx, .int .i64 kx, .bool buyx, .int .i64 qtyx, .int .i64 pricex, .int .i64 tmx] from rfl] at HR HF
  go_enter Tryd.func3, Tryd.ntmps3
  go_wp2_with fail
  refine HA.out.mono ?_
  rintro e w1 ⟨rfl, hb1⟩
  have HI := Lib.hid ((RI.start w).on hb1)
  clear hb1 HA
  go_wp2_with fail
  refine (HR.out _ _ HI.out).mono ?_
  rintro e w2 ⟨rfl, hI2⟩
  replace HI := Lib.hid (hI2.add 27 #[.int .i64 0, .int .i64 0, .int .i64 0, .bool false, .int .i64 0, .int .i64 0, .bool false, .string ⟨#[]⟩, .string ⟨#[]⟩, .string ⟨#[]⟩, .string ⟨#[]⟩, .string ⟨#[]⟩, .string ⟨#[]⟩, .int .i64 0, .bool false, .int .i64 0, .int .i64 0, .int .i64 0])
  clear hI2 HR
  go_upto_region 5 with (first | (refine ri_store rfl 27 (.tmp 3) (.tmp 17) rfl 0 #[.int .i64 kindx, .int .i64 seqx, .int .i64 timex, .bool copyx, .int .i64 ax, .int .i64 bx, .bool gapx, .string textx, .string idx, .string refx, .string orderx, .string accountx, .string symbolx, .int .i64 kx, .bool buyx, .int .i64 qtyx, .int .i64 pricex, .int .i64 tmx] rfl rfl HI.out (Nat.le_refl 18) infoM (arr_one ⟨kindx, seqx, timex, copyx, ax, bx, gapx, textx, ⟨idx, refx, orderx, accountx, symbolx, kx, buyx, qtyx, pricex, tmx⟩⟩) ?_; go_must (intro w3 hI3; clear HI; have HI := Lib.hid hI3; clear hI3; simp [setAll] at HI)))
  generalize w2.heap.size = gm at *
  go_wp2_with fail
  refine (HF.out _ _ HI.out).mono ?_
  rintro e w4 ⟨rfl, hI4⟩
  replace HI := Lib.hid (hI4.add 27 #[.int .i64 0, .int .i64 0, .int .i64 0, .bool false, .int .i64 0, .int .i64 0, .bool false, .string ⟨#[]⟩, .string ⟨#[]⟩, .string ⟨#[]⟩, .string ⟨#[]⟩, .string ⟨#[]⟩, .string ⟨#[]⟩, .int .i64 0, .bool false, .int .i64 0, .int .i64 0, .int .i64 0])
  clear hI4 HF
  go_upto_region 6 with (first | (refine ri_store rfl 27 (.tmp 5) (.tmp 22) rfl 0 #[.int .i64 kindx, .int .i64 seqx, .int .i64 timex, .bool copyx, .int .i64 ax, .int .i64 bx, .bool gapx, .string textx, .string idx, .string refx, .string orderx, .string accountx, .string symbolx, .int .i64 kx, .bool buyx, .int .i64 qtyx, .int .i64 pricex, .int .i64 tmx] rfl rfl HI.out (Nat.le_refl 18) infoM (arr_one ⟨kindx, seqx, timex, copyx, ax, bx, gapx, textx, ⟨idx, refx, orderx, accountx, symbolx, kx, buyx, qtyx, pricex, tmx⟩⟩) ?_; go_must (intro w5 hI5; clear HI; have HI := Lib.hid hI5; clear hI5; simp [setAll] at HI)))
  generalize w4.heap.size = gn at *
  go_wp2_with (first | (refine wpList_load_row rfl 27 (.tmp 3) rfl gm rfl 27 #[.int .i64 kindx, .int .i64 seqx, .int .i64 timex, .bool copyx, .int .i64 ax, .int .i64 bx, .bool gapx, .string textx, .string idx, .string refx, .string orderx, .string accountx, .string symbolx, .int .i64 kx, .bool buyx, .int .i64 qtyx, .int .i64 pricex, .int .i64 tmx] (0, 0) _ HI.out.swap.bx Tryd.underlying27 rfl infoM ?_) | (refine wpList_load_row rfl 27 (.tmp 5) rfl gn rfl 27 #[.int .i64 kindx, .int .i64 seqx, .int .i64 timex, .bool copyx, .int .i64 ax, .int .i64 bx, .bool gapx, .string textx, .string idx, .string refx, .string orderx, .string accountx, .string symbolx, .int .i64 kx, .bool buyx, .int .i64 qtyx, .int .i64 pricex, .int .i64 tmx] (0, 0) _ HI.out.bx Tryd.underlying27 rfl infoM ?_) | (refine list_eqM rfl (.tmp 24) (.tmp 25) rfl ⟨kindx, seqx, timex, copyx, ax, bx, gapx, textx, ⟨idx, refx, orderx, accountx, symbolx, kx, buyx, qtyx, pricex, tmx⟩⟩ ⟨kindx, seqx, timex, copyx, ax, bx, gapx, textx, ⟨idx, refx, orderx, accountx, symbolx, kx, buyx, qtyx, pricex, tmx⟩⟩ rfl rfl ?_; go_must (rw [decide_eq_true rfl])))
  go_ret
  exact ⟨rfl, HI.out.below⟩
end Go.Proofs.YtioagepalfiioaaDoor
