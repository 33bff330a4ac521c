/-
  Layer 3's laws: the walk of FrameNext.
-/
import Derived.Test.YtidmgolahdkmlaaDoorLaw03
import Derived.Test.YtidmgolahdkmlaaDoorFrmRefNext
import Derived.Test.YtidmgolahdkmlaaDoorFieldOpen
namespace Go.Proofs.YtidmgolahdkmlaaDoor
open Go.RowKit

set_option maxRecDepth 100000 in
set_option maxHeartbeats 2000000 in
theorem walk_FrameNext (A : Option Addr) (n c : Nat) (l : List UInt8) (hn : l.length = n) (w : World) (h : Sl w A n c 1 (bcells l)) (hctx : FCtx w) :
    Calls Tryd.prog 4 #[.slice A n c] w fun e w' => e = .returned (.bool true) ∧ Below w.heap.size w w' := by
  have hcm := h.cap
  have hnc := h.le
  unfold maxLen at hcm
  have HS := Lib.hid h
  clear h
  by_cases h9 : 9000 < n
  · go_enter Tryd.func4, Tryd.ntmps4
    go_wp2_with fail
    refine (awake03 w hctx).mono ?_
    rintro e w1 ⟨rfl, hb1⟩
    go_wp2
    go_ret
    exact ⟨rfl, hb1⟩
  · go_enter Tryd.func4, Tryd.ntmps4
    go_wp2_with fail
    refine (awake03 w hctx).mono ?_
    rintro e w1 ⟨rfl, hb1⟩
    have hp := frame_Next A n c l w1 (HS.out.on hb1) hn (by omega) (hctx.on hb1)
    rw [show NextPost l w1 = fun e w' => ∃ A n c, e = .returned (.tuple #[.int .i64 (nxt l).1, .slice A n c, .int .i64 ((nxt l).2.2 : Nat)]) ∧ Sl w' A n c 1 (bcells (nxt l).2.1) ∧ Below w1.heap.size w1 w' ∧ Fm A from rfl] at hp
    go_wp2_with fail
    refine hp.mono ?_
    rintro e w2 ⟨A2, n2, c2, rfl, hs2, hb2, _⟩
    have hB2 : Below w.heap.size w w2 := hb1.trans (hb2.mono hb1.size)
    have hq := ref_Next3 A n c l w2 (HS.out.on hB2) hn (by omega)
    rw [show NextPost l w2 = fun e w' => ∃ A n c, e = .returned (.tuple #[.int .i64 (nxt l).1, .slice A n c, .int .i64 ((nxt l).2.2 : Nat)]) ∧ Sl w' A n c 1 (bcells (nxt l).2.1) ∧ Below w2.heap.size w2 w' ∧ Fm A from rfl] at hq
    clear hp
    go_wp2_with fail
    refine hq.mono ?_
    rintro e w3 ⟨A3, n3, c3, rfl, hs3, hb3, _⟩
    have hB3 : Below w.heap.size w w3 := hB2.trans (hb3.mono hB2.size)
    have k2 := conv_sl (hs2.on hb3)
    have k3 := conv_sl hs3
    clear hq hs2 hs3
    generalize (nxt l).1 = v1 at *
    generalize (nxt l).2.2 = v3 at *
    go_wp2
    go_ret
    exact ⟨rfl, hB3⟩
end Go.Proofs.YtidmgolahdkmlaaDoor
