/-
  Layer 3's laws: the walk of FrameRight.
-/
import Derived.Test.YtidmgolahdkmlaaDoorLaw03
import Derived.Test.YtidmgolahdkmlaaDoorFrmRefPut
import Derived.Test.YtidmgolahdkmlaaDoorFieldOpen
namespace Go.Proofs.YtidmgolahdkmlaaDoor
open Go.RowKit

set_option maxRecDepth 100000 in
set_option maxHeartbeats 2000000 in
theorem walk_FrameRight (A : Option Addr) (n c : Nat) (l : List UInt8) (hn : l.length = n) (w : World) (h : Sl w A n c 1 (bcells l)) (hctx : FCtx w) :
    Calls Tryd.prog 3 #[.slice A n c] w fun e w' => e = .returned (.bool true) ∧ Below w.heap.size w w' := by
  have hcm := h.cap
  have hnc := h.le
  unfold maxLen at hcm
  have HS := Lib.hid h
  clear h
  by_cases h9 : 9000 < n
  · go_enter Tryd.func3, Tryd.ntmps3
    go_wp2_with fail
    refine (awake03 w hctx).mono ?_
    rintro e w1 ⟨rfl, hb1⟩
    go_wp2
    go_ret
    exact ⟨rfl, hb1⟩
  · go_enter Tryd.func3, Tryd.ntmps3
    go_wp2_with fail
    refine (awake03 w hctx).mono ?_
    rintro e w1 ⟨rfl, hb1⟩
    have hp := frame_Put A n c l w1 (HS.out.on hb1) hn (by omega) (hctx.on hb1)
    rw [show FPutPost l w1 = fun e w' => ∃ v, e = .returned (.tuple #[v, .int .i64 (frmE l)]) ∧ Moz w' w1.heap.size v (frmV l).length (bcells (frmV l)) ∧ Below w1.heap.size w1 w' from rfl] at hp
    go_wp2_with fail
    refine hp.mono ?_
    rintro e w2 ⟨v2, rfl, hm2, hb2⟩
    have hB2 : Below w.heap.size w w2 := hb1.trans (hb2.mono hb1.size)
    obtain ⟨A2, c2, rfl, hs2, _⟩ := hm2.sl
    have hq := ref_Put3 A n c l w2 (HS.out.on hB2) hn (by omega)
    rw [show FPutPost l w2 = fun e w' => ∃ v, e = .returned (.tuple #[v, .int .i64 (frmE l)]) ∧ Moz w' w2.heap.size v (frmV l).length (bcells (frmV l)) ∧ Below w2.heap.size w2 w' from rfl] at hq
    clear hp hm2
    go_wp2_with fail
    refine hq.mono ?_
    rintro e w3 ⟨v3, rfl, hm3, hb3⟩
    have hB3 : Below w.heap.size w w3 := hB2.trans (hb3.mono hB2.size)
    obtain ⟨A3, c3, rfl, hs3, _⟩ := hm3.sl
    have k2 := conv_sl (hs2.on hb3)
    have k3 := conv_sl hs3
    have hr := Lib.hid (frame_Right A n c l w3 (HS.out.on hB3) hn (by omega) (hctx.on hB3))
    have hr' := Lib.hid (fun W (hW : Below w.heap.size w W) => ref_Right3 A n c l W (HS.out.on hW) hn (by omega))
    have hsu := Lib.hid (fun W (hW : Below w.heap.size w W) => frame_Sum A n c l W (HS.out.on hW).row hn (by omega))
    have hsu' := Lib.hid (fun W (hW : Below w.heap.size w W) => ref_Sum3 A n c l W (HS.out.on hW).row hn (by omega))
    clear hq hm3 hs2 hs3
    go_wp2_with fail
    refine hr.out.mono ?_
    rintro e w4 ⟨rfl, hb4⟩
    have hB4 : Below w.heap.size w w4 := hB3.trans (hb4.mono hB3.size)
    clear hr k2 k3
    go_wp2_with fail
    refine (hr'.out _ hB4).mono ?_
    rintro e w5 ⟨rfl, hb5⟩
    have hB5 : Below w.heap.size w w5 := hB4.trans (hb5.mono hB4.size)
    go_wp2_with fail
    refine (hsu.out _ hB5).mono ?_
    rintro e w' ⟨rfl, rfl⟩
    go_wp2_with fail
    refine (hsu'.out _ hB5).mono ?_
    rintro e w' ⟨rfl, rfl⟩
    go_wp2
    go_ret
    exact ⟨rfl, hB5⟩
end Go.Proofs.YtidmgolahdkmlaaDoor
