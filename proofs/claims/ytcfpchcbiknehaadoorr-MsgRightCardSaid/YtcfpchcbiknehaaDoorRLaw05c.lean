/-
  Layer 5's laws: the walk of MsgRight.
-/
import Derived.Test.YtcfpchcbiknehaaDoorRLaw05
import Derived.Test.YtcfpchcbiknehaaDoorRMsgQuiet
namespace Go.Proofs.YtcfpchcbiknehaaDoorR
open Go.RowKit

set_option maxRecDepth 100000 in
set_option maxHeartbeats 20000000 in
theorem walk_MsgRight (m : Mg) (hm : m.In) (w : World) (hctx : FCtx w) :
    Calls Tryd.prog 3 #[m.val] w fun e w' => e = .returned (.bool true) ∧ Below w.heap.size w w' := by
  have HC := Lib.hid (fun (W : World) (hb : Below w.heap.size w W) => hctx.on hb)
  have HA := Lib.hid (fun (bb : List (Nat × TypeId × Array Value)) (W : World) (hI : RI w bb W) => (awake05 W (HC.out W hI.below)).mono fun e W' ⟨he, hb⟩ => (show e = Ending.returned (.bool true) ∧ RI w bb W' from ⟨he, hI.on hb⟩))
  have HS := Lib.hid (fun (bb : List (Nat × TypeId × Array Value)) (W : World) (hI : RI w bb W) => (ref_Short5 m hm W).mono fun e W' ⟨he, hb⟩ => (show e = Ending.returned (.bool (shortM m)) ∧ RI w bb W' from ⟨he, hI.on hb⟩))
  have HP0 := Lib.hid (fun (bb : List (Nat × TypeId × Array Value)) (W : World) (hI : RI w bb W) => (own_Put5 m hm W (HC.out W hI.below)).mono fun e W' ⟨Ap, np, cp, he, hs, hb⟩ => (show ∃ Ap np cp, e = Ending.returned (.tuple #[.slice Ap np cp, .int .i64 (mPutE m)]) ∧ Sl W' Ap np cp 1 (bcells (mPutV m)) ∧ RI w bb W' from ⟨Ap, np, cp, he, hs, hI.on hb⟩))
  have HP1 := Lib.hid (fun (bb : List (Nat × TypeId × Array Value)) (W : World) (hI : RI w bb W) (A0 : Option Addr) (n0 c0 : Nat) (hs0 : Sl W A0 n0 c0 1 (bcells (mPutV m))) => (ref_Put5 m hm W).mono fun e W' ⟨Ap, np, cp, he, hs, hb⟩ => (show ∃ Ap np cp, e = Ending.returned (.tuple #[.slice Ap np cp, .int .i64 (mPutE m)]) ∧ Sl W' Ap np cp 1 (bcells (mPutV m)) ∧ RI w bb W' ∧ Sl W' A0 n0 c0 1 (bcells (mPutV m)) from ⟨Ap, np, cp, he, hs, hI.on hb, hs0.on hb⟩))
  have r0 := fun W => own_Right5 m hm W
  have r1 := fun W => ref_Right5 m hm W
  have x0 := fun W => own_Exec5 m.ex hm.ex W
  have x1 := fun W => ref_Exec5 m.ex hm.ex W
  have t0 := fun W => own_Name5 m.text hm.text W
  have t1 := fun W => ref_Name5 m.text hm.text W
  generalize shortM m = sa at *
  generalize mPutE m = pe at *
  generalize mPutV m = pv at *
  generalize msgB m = mb at *
  generalize excB m.ex = xb at *
  generalize nm m.text = nb at *
  clear hm hctx
  obtain ⟨kind0, seq0, time0, copy0, a0, b0, gap0, text0, ⟨id0, ref0, order0, account0, symbol0, k0, buy0, qty0, price0, tm0⟩⟩ := m
  rw [show (Mg.val ⟨kind0, seq0, time0, copy0, a0, b0, gap0, text0, ⟨id0, ref0, order0, account0, symbol0, k0, buy0, qty0, price0, tm0⟩⟩) = .agg #[.int .i64 kind0, .int .i64 seq0, .int .i64 time0, .bool copy0, .int .i64 a0, .int .i64 b0, .bool gap0, .string text0, .string id0, .string ref0, .string order0, .string account0, .string symbol0, .int .i64 k0, .bool buy0, .int .i64 qty0, .int .i64 price0, .int .i64 tm0] from rfl] at HP0 HP1 HS r0 r1
  dsimp only at x0 x1 t0 t1
  rw [show (Exc.val ⟨id0, ref0, order0, account0, symbol0, k0, buy0, qty0, price0, tm0⟩) = .agg #[.string id0, .string ref0, .string order0, .string account0, .string symbol0, .int .i64 k0, .bool buy0, .int .i64 qty0, .int .i64 price0, .int .i64 tm0] from rfl] at x0 x1
  rw [show (Mg.val ⟨kind0, seq0, time0, copy0, a0, b0, gap0, text0, ⟨id0, ref0, order0, account0, symbol0, k0, buy0, qty0, price0, tm0⟩⟩) = .agg #[.int .i64 kind0, .int .i64 seq0, .int .i64 time0, .bool copy0, .int .i64 a0, .int .i64 b0, .bool gap0, .string text0, .string id0, .string ref0, .string order0, .string account0, .string symbol0, .int .i64 k0, .bool buy0, .int .i64 qty0, .int .i64 price0, .int .i64 tm0] from rfl]
  replace r0 := Lib.hid r0
  replace r1 := Lib.hid r1
  replace x0 := Lib.hid x0
  replace x1 := Lib.hid x1
  replace t0 := Lib.hid t0
  replace t1 := Lib.hid t1
  have HI := Lib.hid ((RI.start w).add 25 #[.int .i64 kind0, .int .i64 seq0, .int .i64 time0, .bool copy0, .int .i64 a0, .int .i64 b0, .bool gap0, .string text0, .string id0, .string ref0, .string order0, .string account0, .string symbol0, .int .i64 k0, .bool buy0, .int .i64 qty0, .int .i64 price0, .int .i64 tm0])
  go_enter Tryd.func3, Tryd.ntmps3
  go_wp2_with fail
  refine (HA.out _ _ HI.out).mono ?_
  rintro e w1 ⟨rfl, hI⟩
  replace HI := Lib.hid hI
  clear hI HA
  go_wp2_with (first | (refine wpList_load_row rfl 25 (.tmp 1) rfl w.heap.size rfl 25 #[.int .i64 kind0, .int .i64 seq0, .int .i64 time0, .bool copy0, .int .i64 a0, .int .i64 b0, .bool gap0, .string text0, .string id0, .string ref0, .string order0, .string account0, .string symbol0, .int .i64 k0, .bool buy0, .int .i64 qty0, .int .i64 price0, .int .i64 tm0] (0, 0) _ HI.out.bx Tryd.underlying25 rfl infoM ?_))
  refine (HS.out _ _ HI.out).mono ?_
  rintro e w2 ⟨rfl, hI⟩
  replace HI := Lib.hid hI
  clear hI HS
  rcases sa with _ | _
  · go_wp2
    go_ret
    exact ⟨rfl, HI.out.below⟩
  · go_wp2_with (first | (refine wpList_load_row rfl 25 (.tmp 1) rfl w.heap.size rfl 25 #[.int .i64 kind0, .int .i64 seq0, .int .i64 time0, .bool copy0, .int .i64 a0, .int .i64 b0, .bool gap0, .string text0, .string id0, .string ref0, .string order0, .string account0, .string symbol0, .int .i64 k0, .bool buy0, .int .i64 qty0, .int .i64 price0, .int .i64 tm0] (0, 0) _ HI.out.bx Tryd.underlying25 rfl infoM ?_))
    refine (HP0.out _ _ HI.out).mono ?_
    rintro e w3 ⟨A0, n0, c0, rfl, hs0, hI⟩
    replace HI := Lib.hid hI
    replace hs0 := Lib.hid hs0
    clear hI HP0
    go_wp2_with (first | (refine wpList_load_row rfl 25 (.tmp 1) rfl w.heap.size rfl 25 #[.int .i64 kind0, .int .i64 seq0, .int .i64 time0, .bool copy0, .int .i64 a0, .int .i64 b0, .bool gap0, .string text0, .string id0, .string ref0, .string order0, .string account0, .string symbol0, .int .i64 k0, .bool buy0, .int .i64 qty0, .int .i64 price0, .int .i64 tm0] (0, 0) _ HI.out.bx Tryd.underlying25 rfl infoM ?_))
    refine (HP1.out _ _ HI.out A0 n0 c0 hs0.out).mono ?_
    rintro e w4 ⟨A1, n1, c1, rfl, hs1, hI, hs0'⟩
    replace HI := Lib.hid hI
    replace hs0 := Lib.hid hs0'
    replace hs1 := Lib.hid hs1
    clear hI HP1 hs0'
    have hmk : ∀ W W', (fun W => RI w [(w.heap.size, 25, #[.int .i64 kind0, .int .i64 seq0, .int .i64 time0, .bool copy0, .int .i64 a0, .int .i64 b0, .bool gap0, .string text0, .string id0, .string ref0, .string order0, .string account0, .string symbol0, .int .i64 k0, .bool buy0, .int .i64 qty0, .int .i64 price0, .int .i64 tm0])] W ∧ Sl W A0 n0 c0 1 (bcells pv) ∧ Sl W A1 n1 c1 1 (bcells pv)) W → Below W.heap.size W W' → (fun W => RI w [(w.heap.size, 25, #[.int .i64 kind0, .int .i64 seq0, .int .i64 time0, .bool copy0, .int .i64 a0, .int .i64 b0, .bool gap0, .string text0, .string id0, .string ref0, .string order0, .string account0, .string symbol0, .int .i64 k0, .bool buy0, .int .i64 qty0, .int .i64 price0, .int .i64 tm0])] W ∧ Sl W A0 n0 c0 1 (bcells pv) ∧ Sl W A1 n1 c1 1 (bcells pv)) W' := fun W W' ⟨h1, h2, h3⟩ hb => ⟨h1.on hb, h2.on hb, h3.on hb⟩
    have HR0 := Lib.hid (fun W (h : (fun W => RI w [(w.heap.size, 25, #[.int .i64 kind0, .int .i64 seq0, .int .i64 time0, .bool copy0, .int .i64 a0, .int .i64 b0, .bool gap0, .string text0, .string id0, .string ref0, .string order0, .string account0, .string symbol0, .int .i64 k0, .bool buy0, .int .i64 qty0, .int .i64 price0, .int .i64 tm0])] W ∧ Sl W A0 n0 c0 1 (bcells pv) ∧ Sl W A1 n1 c1 1 (bcells pv)) W) => (r0.out W).mono fun e W' ⟨he, hb⟩ => (show e = Ending.returned (.bool mb) ∧ (fun W => RI w [(w.heap.size, 25, #[.int .i64 kind0, .int .i64 seq0, .int .i64 time0, .bool copy0, .int .i64 a0, .int .i64 b0, .bool gap0, .string text0, .string id0, .string ref0, .string order0, .string account0, .string symbol0, .int .i64 k0, .bool buy0, .int .i64 qty0, .int .i64 price0, .int .i64 tm0])] W ∧ Sl W A0 n0 c0 1 (bcells pv) ∧ Sl W A1 n1 c1 1 (bcells pv)) W' from ⟨he, hmk W W' h hb⟩))
    have HR1 := Lib.hid (fun W (h : (fun W => RI w [(w.heap.size, 25, #[.int .i64 kind0, .int .i64 seq0, .int .i64 time0, .bool copy0, .int .i64 a0, .int .i64 b0, .bool gap0, .string text0, .string id0, .string ref0, .string order0, .string account0, .string symbol0, .int .i64 k0, .bool buy0, .int .i64 qty0, .int .i64 price0, .int .i64 tm0])] W ∧ Sl W A0 n0 c0 1 (bcells pv) ∧ Sl W A1 n1 c1 1 (bcells pv)) W) => (r1.out W).mono fun e W' ⟨he, hb⟩ => (show e = Ending.returned (.bool mb) ∧ (fun W => RI w [(w.heap.size, 25, #[.int .i64 kind0, .int .i64 seq0, .int .i64 time0, .bool copy0, .int .i64 a0, .int .i64 b0, .bool gap0, .string text0, .string id0, .string ref0, .string order0, .string account0, .string symbol0, .int .i64 k0, .bool buy0, .int .i64 qty0, .int .i64 price0, .int .i64 tm0])] W ∧ Sl W A0 n0 c0 1 (bcells pv) ∧ Sl W A1 n1 c1 1 (bcells pv)) W' from ⟨he, hmk W W' h hb⟩))
    have HX0 := Lib.hid (fun W (h : (fun W => RI w [(w.heap.size, 25, #[.int .i64 kind0, .int .i64 seq0, .int .i64 time0, .bool copy0, .int .i64 a0, .int .i64 b0, .bool gap0, .string text0, .string id0, .string ref0, .string order0, .string account0, .string symbol0, .int .i64 k0, .bool buy0, .int .i64 qty0, .int .i64 price0, .int .i64 tm0])] W ∧ Sl W A0 n0 c0 1 (bcells pv) ∧ Sl W A1 n1 c1 1 (bcells pv)) W) => (x0.out W).mono fun e W' ⟨he, hb⟩ => (show e = Ending.returned (.bool xb) ∧ (fun W => RI w [(w.heap.size, 25, #[.int .i64 kind0, .int .i64 seq0, .int .i64 time0, .bool copy0, .int .i64 a0, .int .i64 b0, .bool gap0, .string text0, .string id0, .string ref0, .string order0, .string account0, .string symbol0, .int .i64 k0, .bool buy0, .int .i64 qty0, .int .i64 price0, .int .i64 tm0])] W ∧ Sl W A0 n0 c0 1 (bcells pv) ∧ Sl W A1 n1 c1 1 (bcells pv)) W' from ⟨he, hmk W W' h hb⟩))
    have HX1 := Lib.hid (fun W (h : (fun W => RI w [(w.heap.size, 25, #[.int .i64 kind0, .int .i64 seq0, .int .i64 time0, .bool copy0, .int .i64 a0, .int .i64 b0, .bool gap0, .string text0, .string id0, .string ref0, .string order0, .string account0, .string symbol0, .int .i64 k0, .bool buy0, .int .i64 qty0, .int .i64 price0, .int .i64 tm0])] W ∧ Sl W A0 n0 c0 1 (bcells pv) ∧ Sl W A1 n1 c1 1 (bcells pv)) W) => (x1.out W).mono fun e W' ⟨he, hb⟩ => (show e = Ending.returned (.bool xb) ∧ (fun W => RI w [(w.heap.size, 25, #[.int .i64 kind0, .int .i64 seq0, .int .i64 time0, .bool copy0, .int .i64 a0, .int .i64 b0, .bool gap0, .string text0, .string id0, .string ref0, .string order0, .string account0, .string symbol0, .int .i64 k0, .bool buy0, .int .i64 qty0, .int .i64 price0, .int .i64 tm0])] W ∧ Sl W A0 n0 c0 1 (bcells pv) ∧ Sl W A1 n1 c1 1 (bcells pv)) W' from ⟨he, hmk W W' h hb⟩))
    have HN0 := Lib.hid (fun W (h : (fun W => RI w [(w.heap.size, 25, #[.int .i64 kind0, .int .i64 seq0, .int .i64 time0, .bool copy0, .int .i64 a0, .int .i64 b0, .bool gap0, .string text0, .string id0, .string ref0, .string order0, .string account0, .string symbol0, .int .i64 k0, .bool buy0, .int .i64 qty0, .int .i64 price0, .int .i64 tm0])] W ∧ Sl W A0 n0 c0 1 (bcells pv) ∧ Sl W A1 n1 c1 1 (bcells pv)) W) => (t0.out W).mono fun e W' ⟨he, hb⟩ => (show e = Ending.returned (.bool nb) ∧ (fun W => RI w [(w.heap.size, 25, #[.int .i64 kind0, .int .i64 seq0, .int .i64 time0, .bool copy0, .int .i64 a0, .int .i64 b0, .bool gap0, .string text0, .string id0, .string ref0, .string order0, .string account0, .string symbol0, .int .i64 k0, .bool buy0, .int .i64 qty0, .int .i64 price0, .int .i64 tm0])] W ∧ Sl W A0 n0 c0 1 (bcells pv) ∧ Sl W A1 n1 c1 1 (bcells pv)) W' from ⟨he, hb ▸ h⟩))
    have HN1 := Lib.hid (fun W (h : (fun W => RI w [(w.heap.size, 25, #[.int .i64 kind0, .int .i64 seq0, .int .i64 time0, .bool copy0, .int .i64 a0, .int .i64 b0, .bool gap0, .string text0, .string id0, .string ref0, .string order0, .string account0, .string symbol0, .int .i64 k0, .bool buy0, .int .i64 qty0, .int .i64 price0, .int .i64 tm0])] W ∧ Sl W A0 n0 c0 1 (bcells pv) ∧ Sl W A1 n1 c1 1 (bcells pv)) W) => (t1.out W).mono fun e W' ⟨he, hb⟩ => (show e = Ending.returned (.bool nb) ∧ (fun W => RI w [(w.heap.size, 25, #[.int .i64 kind0, .int .i64 seq0, .int .i64 time0, .bool copy0, .int .i64 a0, .int .i64 b0, .bool gap0, .string text0, .string id0, .string ref0, .string order0, .string account0, .string symbol0, .int .i64 k0, .bool buy0, .int .i64 qty0, .int .i64 price0, .int .i64 tm0])] W ∧ Sl W A0 n0 c0 1 (bcells pv) ∧ Sl W A1 n1 c1 1 (bcells pv)) W' from ⟨he, hb ▸ h⟩))
    have h7 := Lib.hid (fun W (h : (fun W => RI w [(w.heap.size, 25, #[.int .i64 kind0, .int .i64 seq0, .int .i64 time0, .bool copy0, .int .i64 a0, .int .i64 b0, .bool gap0, .string text0, .string id0, .string ref0, .string order0, .string account0, .string symbol0, .int .i64 k0, .bool buy0, .int .i64 qty0, .int .i64 price0, .int .i64 tm0])] W ∧ Sl W A0 n0 c0 1 (bcells pv) ∧ Sl W A1 n1 c1 1 (bcells pv)) W) => (show W.cell? ⟨w.heap.size, 7, none⟩ = some (.string text0) from h.1.bx.cell 7))
    have Hstart := Lib.hid (show (fun W => RI w [(w.heap.size, 25, #[.int .i64 kind0, .int .i64 seq0, .int .i64 time0, .bool copy0, .int .i64 a0, .int .i64 b0, .bool gap0, .string text0, .string id0, .string ref0, .string order0, .string account0, .string symbol0, .int .i64 k0, .bool buy0, .int .i64 qty0, .int .i64 price0, .int .i64 tm0])] W ∧ Sl W A0 n0 c0 1 (bcells pv) ∧ Sl W A1 n1 c1 1 (bcells pv)) w4.drew from hmk _ _ ⟨HI.out, hs0.out, hs1.out⟩ (Below.refl _ _).drew)
    clear hmk r0 r1 x0 x1 t0 t1 hs0 hs1
    go_upto_region 7 with fail
    refine wpQ_region (fun W => RI w [(w.heap.size, 25, #[.int .i64 kind0, .int .i64 seq0, .int .i64 time0, .bool copy0, .int .i64 a0, .int .i64 b0, .bool gap0, .string text0, .string id0, .string ref0, .string order0, .string account0, .string symbol0, .int .i64 k0, .bool buy0, .int .i64 qty0, .int .i64 price0, .int .i64 tm0])] W ∧ Sl W A0 n0 c0 1 (bcells pv) ∧ Sl W A1 n1 c1 1 (bcells pv)) (by kernel_rfl) (by kernel_rfl) Hstart.out ?_
    refine wpQ_load rfl (fun W h => h.1.bx) 25 (.tmp 1) rfl rfl _ Tryd.underlying25 rfl infoM ?_
    simp only [Act.put, List.setIfInBounds_toArray, List.set_cons_zero, List.set_cons_succ]
    refine wpQ_call rfl 10 #[.agg #[.int .i64 kind0, .int .i64 seq0, .int .i64 time0, .bool copy0, .int .i64 a0, .int .i64 b0, .bool gap0, .string text0, .string id0, .string ref0, .string order0, .string account0, .string symbol0, .int .i64 k0, .bool buy0, .int .i64 qty0, .int .i64 price0, .int .i64 tm0]] (.bool mb) (fun w => by simp [go_sem, Act.eval]) HR0.out ?_
    simp only [Act.put, List.setIfInBounds_toArray, List.set_cons_zero, List.set_cons_succ]
    refine wpQ_load rfl (fun W h => h.1.bx) 25 (.tmp 1) rfl rfl _ Tryd.underlying25 rfl infoM ?_
    simp only [Act.put, List.setIfInBounds_toArray, List.set_cons_zero, List.set_cons_succ]
    refine wpQ_call rfl 11 #[.agg #[.int .i64 kind0, .int .i64 seq0, .int .i64 time0, .bool copy0, .int .i64 a0, .int .i64 b0, .bool gap0, .string text0, .string id0, .string ref0, .string order0, .string account0, .string symbol0, .int .i64 k0, .bool buy0, .int .i64 qty0, .int .i64 price0, .int .i64 tm0]] (.bool mb) (fun w => by simp [go_sem, Act.eval]) HR1.out ?_
    simp only [Act.put, List.setIfInBounds_toArray, List.set_cons_zero, List.set_cons_succ]
    refine wpQ_val rfl (.bool true) (fun w hc => by simp [go_sem, Act.eval]) ?_
    simp only [Act.put, List.setIfInBounds_toArray, List.set_cons_zero, List.set_cons_succ]
    refine wpQ_move rfl (.tmp 26) (.inl rfl) (.bool true) rfl ?_
    simp only [Act.put, List.setIfInBounds_toArray, List.set_cons_zero, List.set_cons_succ]
    refine wpQ_val rfl (.pointer (some ⟨w.heap.size, 8, none⟩)) (fun w hc => by simp [go_sem, Act.eval]) ?_
    simp only [Act.put, List.setIfInBounds_toArray, List.set_cons_zero, List.set_cons_succ]
    refine wpQ_mid [.string id0, .string ref0, .string order0, .string account0, .string symbol0, .int .i64 k0, .bool buy0, .int .i64 qty0, .int .i64 price0, .int .i64 tm0] rfl (fun W h => h.1.bx.range 8) 23 (.tmp 28) rfl rfl _ Tryd.underlying23 rfl infoX ?_
    simp only [Act.put, List.setIfInBounds_toArray, List.set_cons_zero, List.set_cons_succ]
    refine wpQ_call rfl 12 #[.agg #[.string id0, .string ref0, .string order0, .string account0, .string symbol0, .int .i64 k0, .bool buy0, .int .i64 qty0, .int .i64 price0, .int .i64 tm0]] (.bool xb) (fun w => by simp [go_sem, Act.eval]) HX0.out ?_
    simp only [Act.put, List.setIfInBounds_toArray, List.set_cons_zero, List.set_cons_succ]
    refine wpQ_val rfl (.pointer (some ⟨w.heap.size, 8, none⟩)) (fun w hc => by simp [go_sem, Act.eval]) ?_
    simp only [Act.put, List.setIfInBounds_toArray, List.set_cons_zero, List.set_cons_succ]
    refine wpQ_mid [.string id0, .string ref0, .string order0, .string account0, .string symbol0, .int .i64 k0, .bool buy0, .int .i64 qty0, .int .i64 price0, .int .i64 tm0] rfl (fun W h => h.1.bx.range 8) 23 (.tmp 31) rfl rfl _ Tryd.underlying23 rfl infoX ?_
    simp only [Act.put, List.setIfInBounds_toArray, List.set_cons_zero, List.set_cons_succ]
    refine wpQ_call rfl 13 #[.agg #[.string id0, .string ref0, .string order0, .string account0, .string symbol0, .int .i64 k0, .bool buy0, .int .i64 qty0, .int .i64 price0, .int .i64 tm0]] (.bool xb) (fun w => by simp [go_sem, Act.eval]) HX1.out ?_
    simp only [Act.put, List.setIfInBounds_toArray, List.set_cons_zero, List.set_cons_succ]
    refine wpQ_val rfl (.bool true) (fun w hc => by simp [go_sem, Act.eval]) ?_
    simp only [Act.put, List.setIfInBounds_toArray, List.set_cons_zero, List.set_cons_succ]
    refine wpQ_pick rfl (.tmp 27) (.tmp 34) (.const (.bool false)) rfl true (.bool true) rfl rfl ?_
    simp only [Act.put, List.setIfInBounds_toArray, List.set_cons_zero, List.set_cons_succ]
    refine wpQ_move rfl (.tmp 35) (.inl rfl) (.bool true) rfl ?_
    simp only [Act.put, List.setIfInBounds_toArray, List.set_cons_zero, List.set_cons_succ]
    refine wpQ_val rfl (.pointer (some ⟨w.heap.size, 7, none⟩)) (fun w hc => by simp [go_sem, Act.eval]) ?_
    simp only [Act.put, List.setIfInBounds_toArray, List.set_cons_zero, List.set_cons_succ]
    refine wpQ_val rfl (.string text0) (fun w hc => by simp [go_sem, Act.eval, h7.out w hc]) ?_
    simp only [Act.put, List.setIfInBounds_toArray, List.set_cons_zero, List.set_cons_succ]
    refine wpQ_call rfl 14 #[.string text0] (.bool nb) (fun w => by simp [go_sem, Act.eval]) HN0.out ?_
    simp only [Act.put, List.setIfInBounds_toArray, List.set_cons_zero, List.set_cons_succ]
    refine wpQ_val rfl (.pointer (some ⟨w.heap.size, 7, none⟩)) (fun w hc => by simp [go_sem, Act.eval]) ?_
    simp only [Act.put, List.setIfInBounds_toArray, List.set_cons_zero, List.set_cons_succ]
    refine wpQ_val rfl (.string text0) (fun w hc => by simp [go_sem, Act.eval, h7.out w hc]) ?_
    simp only [Act.put, List.setIfInBounds_toArray, List.set_cons_zero, List.set_cons_succ]
    refine wpQ_call rfl 15 #[.string text0] (.bool nb) (fun w => by simp [go_sem, Act.eval]) HN1.out ?_
    simp only [Act.put, List.setIfInBounds_toArray, List.set_cons_zero, List.set_cons_succ]
    refine wpQ_val rfl (.bool true) (fun w hc => by simp [go_sem, Act.eval]) ?_
    simp only [Act.put, List.setIfInBounds_toArray, List.set_cons_zero, List.set_cons_succ]
    refine wpQ_pick rfl (.tmp 36) (.tmp 43) (.const (.bool false)) rfl true (.bool true) rfl rfl ?_
    simp only [Act.put, List.setIfInBounds_toArray, List.set_cons_zero, List.set_cons_succ]
    refine wpQ_move rfl (.tmp 44) (.inl rfl) (.bool true) rfl ?_
    simp only [Act.put, List.setIfInBounds_toArray, List.set_cons_zero, List.set_cons_succ]
    refine wpQ_move rfl (.tmp 3) (.inl rfl) (.slice A0 n0 c0) rfl ?_
    simp only [Act.put, List.setIfInBounds_toArray, List.set_cons_zero, List.set_cons_succ]
    refine wpQ_val rfl (.string ⟨pv.toArray⟩) (fun w hc => by simp [go_sem, Act.eval, conv_sl hc.2.1]) ?_
    simp only [Act.put, List.setIfInBounds_toArray, List.set_cons_zero, List.set_cons_succ]
    refine wpQ_move rfl (.tmp 5) (.inl rfl) (.slice A1 n1 c1) rfl ?_
    simp only [Act.put, List.setIfInBounds_toArray, List.set_cons_zero, List.set_cons_succ]
    refine wpQ_val rfl (.string ⟨pv.toArray⟩) (fun w hc => by simp [go_sem, Act.eval, conv_sl hc.2.2]) ?_
    simp only [Act.put, List.setIfInBounds_toArray, List.set_cons_zero, List.set_cons_succ]
    refine wpQ_val rfl (.bool true) (fun w hc => by simp [go_sem, Act.eval]) ?_
    simp only [Act.put, List.setIfInBounds_toArray, List.set_cons_zero, List.set_cons_succ]
    refine wpQ_pick rfl (.tmp 45) (.tmp 50) (.const (.bool false)) rfl true (.bool true) rfl rfl ?_
    simp only [Act.put, List.setIfInBounds_toArray, List.set_cons_zero, List.set_cons_succ]
    refine wpQ_move rfl (.tmp 51) (.inl rfl) (.bool true) rfl ?_
    simp only [Act.put, List.setIfInBounds_toArray, List.set_cons_zero, List.set_cons_succ]
    refine wpQ_move rfl (.tmp 4) (.inl rfl) (.int .i64 pe) rfl ?_
    simp only [Act.put, List.setIfInBounds_toArray, List.set_cons_zero, List.set_cons_succ]
    refine wpQ_move rfl (.tmp 6) (.inl rfl) (.int .i64 pe) rfl ?_
    simp only [Act.put, List.setIfInBounds_toArray, List.set_cons_zero, List.set_cons_succ]
    refine wpQ_val rfl (.bool true) (fun w hc => by simp [go_sem, Act.eval]) ?_
    simp only [Act.put, List.setIfInBounds_toArray, List.set_cons_zero, List.set_cons_succ]
    refine wpQ_pick rfl (.tmp 52) (.tmp 55) (.const (.bool false)) rfl true (.bool true) rfl rfl ?_
    simp only [Act.put, List.setIfInBounds_toArray, List.set_cons_zero, List.set_cons_succ]
    refine wpQ_move rfl (.tmp 56) (.inr rfl) (.bool true) rfl ?_
    simp only [Act.put, List.setIfInBounds_toArray, List.set_cons_zero, List.set_cons_succ]
    refine wpQuiet_nil ?_
    intro w9 hC9
    go_wp2
    go_ret
    exact ⟨rfl, hC9.1.below⟩
end Go.Proofs.YtcfpchcbiknehaaDoorR
