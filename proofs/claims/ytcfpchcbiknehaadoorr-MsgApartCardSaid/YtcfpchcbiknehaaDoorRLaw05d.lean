/-
  Layer 5's laws: the walk of MsgApart.
-/
import Derived.Test.YtcfpchcbiknehaaDoorRLaw05
import Derived.Test.YtcfpchcbiknehaaDoorRMsgQuiet
import Derived.Test.YtcfpchcbiknehaaDoorRMsgEq
import Derived.BigQuiet
namespace Go.Proofs.YtcfpchcbiknehaaDoorR
open Go.RowKit

theorem wpQ_eqM {ops : Array Oper} {C : World → Prop} {Q : Act → Prop} {rest : List Oper} {o : Oper} {a : Act} (hw : Region.wanted o (yielded ops a.tmps) = true) (x y : Operand) (ho : o.op = .binOp .eql 25 x y 25) (m n : Mg) (hx : a.eval x = m.val) (hy : a.eval y = n.val)
    (hk : wpQuiet Tryd.prog ops C Q rest (a.put o.dst (.bool (decide (m = n))))) : wpQuiet Tryd.prog ops C Q (o :: rest) a :=
  wpQ_val hw _ (fun w _ => by unfold execOp; simp only [ho, hx, hy, Sem.run_bind, guard_eqM, eqlM, Result.andThen_ok, Sem.run_pure]) hk
theorem bytes_eq5 (a b : List UInt8) : ((⟨a.toArray⟩ : ByteArray).toList == (⟨b.toArray⟩ : ByteArray).toList) = decide (a = b) := by
  rw [str_eq, decide_eq_decide]
  constructor
  · intro h; injection h with h; exact Array.toList_inj.2 h |> fun e => by simpa using e
  · intro h; rw [h]
theorem ri_store3 {ops : Array Oper} {rest : List Oper} {op : Oper} {a : Act} {Q : Exit → Act → World → Prop} {w W : World} {bs : List (Nat × TypeId × Array Value)} {gx : Nat} {t : TypeId} {cs : Array Value} (hgd : op.guard = none) (ty : TypeId) (x y : Operand) (ho : op.op = .store ty x y)
    (off : Nat) (vs : Array Value) (hx : a.eval x = .pointer (some ⟨gx, off, none⟩)) (hy : a.eval y = .agg vs) (h : RI w ((gx, t, cs) :: bs) W) (hsz : off + vs.size ≤ cs.size)
    (hi : (Tryd.prog.info? ty).map (·.size) = some vs.size) (h1 : vs.all (·.oneCell') = true)
    (hk : ∀ w', RI w ((gx, t, setAll cs off vs.toList) :: bs) w' → wpList Tryd.prog ops Q rest (a.put op.dst undef) w') : wpList Tryd.prog ops Q (op :: rest) a W := ri_store hgd ty x y ho off vs hx hy h hsz hi h1 hk
theorem Mg.In.copy {m : Mg} (h : m.In) (b : Bool) : Mg.In { m with copy := b } := ⟨h.kind, h.seq, h.time, h.a, h.b, h.text, h.ex⟩
/-- What a body is, and whether there is one. -/
def PutOf (m : Mg) (e : Int) (v : List UInt8) : Prop := (e = 0 ∧ MsgR m ∧ v = putL (msgL m)) ∨ (e = 1 ∧ ¬ MsgR m ∧ v = [])
theorem putOf (m : Mg) : PutOf m (mPutE m) (mPutV m) := by
  unfold mPutE mPutV
  rcases hb : msgB m with _ | _
  · exact .inr ⟨rfl, (fun h => by rw [msgB_iff.2 h] at hb; exact absurd hb (by decide)), rfl⟩
  · exact .inl ⟨rfl, msgB_iff.1 hb, rfl⟩
theorem putL_eq {m m' : Mg} (h : MsgR m) (h' : MsgR m') : putL (msgL m) = putL (msgL m') ↔ m = m' := by
  refine ⟨fun he => ?_, fun he => by rw [he]⟩
  have h1 := msg_parse h
  rw [he, msg_parse h'] at h1
  injection h1 with h1
  exact msgL_inj h h' h1.symm
theorem copy_len {m : Mg} (h : m.copy = true) : (putL (msgL m)).length = (putL (msgL { m with copy := false })).length + 5 := by
  have := msg_copy (m := { m with copy := false }) rfl
  have e : ({ ({ m with copy := false } : Mg) with copy := true } : Mg) = m := by cases m; simp only at h; subst h; rfl
  rw [e] at this
  exact this
theorem msgR_not {m : Mg} (b : Bool) : MsgR { m with copy := b } ↔ MsgR m := by
  refine ⟨fun h => ?_, fun h => msgR_copy b h⟩
  have := msgR_copy m.copy h
  exact this
set_option maxRecDepth 100000 in
set_option maxHeartbeats 20000000 in
theorem walk_MsgApart (m m' : Mg) (hm : m.In) (hm' : m'.In) (w : World) (hctx : FCtx w) :
    Calls Tryd.prog 5 #[m.val, m'.val] w fun e w' => e = .returned (.bool true) ∧ Below w.heap.size w w' := by
  have HC := Lib.hid (fun (W : World) (hb : Below w.heap.size w W) => hctx.on hb)
  have mkP : ∀ (m : Mg) (hm : m.In) (bb : List (Nat × TypeId × Array Value)) (W : World) (hI : RI w bb W), Calls Tryd.prog 8 #[m.val] W fun e W' => ∃ Ap np cp, e = Ending.returned (.tuple #[.slice Ap np cp, .int .i64 (mPutE m)]) ∧ Sl W' Ap np cp 1 (bcells (mPutV m)) ∧ RI w bb W' ∧ Below W.heap.size W W' := fun m hm bb W hI => (own_Put5 m hm W (HC.out W hI.below)).mono fun e W' ⟨Ap, np, cp, he, hs, hb⟩ => ⟨Ap, np, cp, he, hs, hI.on hb, hb⟩
  have mkS : ∀ (m : Mg) (hm : m.In) (bb : List (Nat × TypeId × Array Value)) (W : World) (hI : RI w bb W), Calls Tryd.prog 7 #[m.val] W fun e W' => e = Ending.returned (.bool (shortM m)) ∧ RI w bb W' := fun m hm bb W hI => (ref_Short5 m hm W).mono fun e W' ⟨he, hb⟩ => ⟨he, hI.on hb⟩
  have HP0 := Lib.hid (mkP m hm)
  have HP1 := Lib.hid (mkP m' hm')
  have HPc := Lib.hid (mkP { m with copy := !m.copy } (hm.copy _))
  have HS0 := Lib.hid (mkS m hm)
  have HS1 := Lib.hid (mkS m' hm')
  have HA := Lib.hid (fun (bb : List (Nat × TypeId × Array Value)) (W : World) (hI : RI w bb W) => (awake05 W (HC.out W hI.below)).mono fun e W' ⟨he, hb⟩ => (show e = Ending.returned (.bool true) ∧ RI w bb W' from ⟨he, hI.on hb⟩))
  have q0 := putOf m
  have q1 := putOf m'
  have qc := putOf { m with copy := !m.copy }
  unfold PutOf at q0 q1 qc
  rw [msgR_not] at qc
  have Heq := Lib.hid (show MsgR m → MsgR m' → (putL (msgL m) = putL (msgL m') ↔ m = m') from fun h h' => putL_eq h h')
  have Hl1 := Lib.hid (show m.copy = false → (putL (msgL { m with copy := !m.copy })).length = (putL (msgL m)).length + 5 from fun h => by rw [h]; exact msg_copy h)
  have Hl2 := Lib.hid (show m.copy = true → (putL (msgL m)).length = (putL (msgL { m with copy := !m.copy })).length + 5 from fun h => by rw [h]; exact copy_len h)
  generalize hsa : shortM m = sa at *
  generalize hsb : shortM m' = sb at *
  clear hsa hsb mkP mkS hm hm' hctx
  generalize mPutE m = e0 at *
  generalize mPutE m' = e1 at *
  generalize mPutE { m with copy := !m.copy } = ec at *
  generalize mPutV m = v0 at *
  generalize mPutV m' = v1 at *
  generalize mPutV { m with copy := !m.copy } = vc at *
  generalize putL (msgL m) = y0 at *
  generalize putL (msgL m') = y1 at *
  generalize putL (msgL { m with copy := !m.copy }) = yc at *
  obtain ⟨kind0, seq0, time0, copy0, a0, b0, gap0, text0, ⟨id0, ref0, order0, account0, symbol0, k0, buy0, qty0, price0, tm0⟩⟩ := m
  obtain ⟨kind1, seq1, time1, copy1, a1, b1, gap1, text1, ⟨id1, ref1, order1, account1, symbol1, k1, buy1, qty1, price1, tm1⟩⟩ := m'
  dsimp only at HPc Hl1 Hl2
  rw [show (Mg.val ⟨kind0, seq0, time0, copy0, a0, b0, gap0, text0, ⟨id0, ref0, order0, account0, symbol0, k0, buy0, qty0, price0, tm0⟩⟩) = .agg #[.int .i64 kind0, .int .i64 seq0, .int .i64 time0, .bool copy0, .int .i64 a0, .int .i64 b0, .bool gap0, .string text0, .string id0, .string ref0, .string order0, .string account0, .string symbol0, .int .i64 k0, .bool buy0, .int .i64 qty0, .int .i64 price0, .int .i64 tm0] from rfl] at HP0 HS0
  rw [show (Mg.val ⟨kind1, seq1, time1, copy1, a1, b1, gap1, text1, ⟨id1, ref1, order1, account1, symbol1, k1, buy1, qty1, price1, tm1⟩⟩) = .agg #[.int .i64 kind1, .int .i64 seq1, .int .i64 time1, .bool copy1, .int .i64 a1, .int .i64 b1, .bool gap1, .string text1, .string id1, .string ref1, .string order1, .string account1, .string symbol1, .int .i64 k1, .bool buy1, .int .i64 qty1, .int .i64 price1, .int .i64 tm1] from rfl] at HP1 HS1
  rw [show (Mg.val ⟨kind0, seq0, time0, (!copy0), a0, b0, gap0, text0, ⟨id0, ref0, order0, account0, symbol0, k0, buy0, qty0, price0, tm0⟩⟩) = .agg #[.int .i64 kind0, .int .i64 seq0, .int .i64 time0, .bool (!copy0), .int .i64 a0, .int .i64 b0, .bool gap0, .string text0, .string id0, .string ref0, .string order0, .string account0, .string symbol0, .int .i64 k0, .bool buy0, .int .i64 qty0, .int .i64 price0, .int .i64 tm0] from rfl] at HPc
  rw [show (Mg.val ⟨kind0, seq0, time0, copy0, a0, b0, gap0, text0, ⟨id0, ref0, order0, account0, symbol0, k0, buy0, qty0, price0, tm0⟩⟩) = .agg #[.int .i64 kind0, .int .i64 seq0, .int .i64 time0, .bool copy0, .int .i64 a0, .int .i64 b0, .bool gap0, .string text0, .string id0, .string ref0, .string order0, .string account0, .string symbol0, .int .i64 k0, .bool buy0, .int .i64 qty0, .int .i64 price0, .int .i64 tm0] from rfl, show (Mg.val ⟨kind1, seq1, time1, copy1, a1, b1, gap1, text1, ⟨id1, ref1, order1, account1, symbol1, k1, buy1, qty1, price1, tm1⟩⟩) = .agg #[.int .i64 kind1, .int .i64 seq1, .int .i64 time1, .bool copy1, .int .i64 a1, .int .i64 b1, .bool gap1, .string text1, .string id1, .string ref1, .string order1, .string account1, .string symbol1, .int .i64 k1, .bool buy1, .int .i64 qty1, .int .i64 price1, .int .i64 tm1] from rfl]
  have HI := Lib.hid (((RI.start w).add 25 #[.int .i64 kind0, .int .i64 seq0, .int .i64 time0, .bool copy0, .int .i64 a0, .int .i64 b0, .bool gap0, .string text0, .string id0, .string ref0, .string order0, .string account0, .string symbol0, .int .i64 k0, .bool buy0, .int .i64 qty0, .int .i64 price0, .int .i64 tm0]).add 25 #[.int .i64 kind1, .int .i64 seq1, .int .i64 time1, .bool copy1, .int .i64 a1, .int .i64 b1, .bool gap1, .string text1, .string id1, .string ref1, .string order1, .string account1, .string symbol1, .int .i64 k1, .bool buy1, .int .i64 qty1, .int .i64 price1, .int .i64 tm1])
  rw [World.size_alloc] at HI
  replace q0 := Lib.hid q0
  replace q1 := Lib.hid q1
  replace qc := Lib.hid qc
  go_enter Tryd.func5, Tryd.ntmps5
  go_wp2_with fail
  refine (HA.out _ _ HI.out).mono ?_
  rintro e w1 ⟨rfl, hI⟩
  replace HI := Lib.hid hI
  clear hI HA
  have HB0 := Lib.hid HI.out.swap.bx
  go_wp2_with (first | (refine wpList_load_row rfl 25 (.tmp 2) rfl w.heap.size rfl 25 #[.int .i64 kind0, .int .i64 seq0, .int .i64 time0, .bool copy0, .int .i64 a0, .int .i64 b0, .bool gap0, .string text0, .string id0, .string ref0, .string order0, .string account0, .string symbol0, .int .i64 k0, .bool buy0, .int .i64 qty0, .int .i64 price0, .int .i64 tm0] (0, 0) _ HB0.out Tryd.underlying25 rfl infoM ?_))
  refine (HS0.out _ _ HI.out).mono ?_
  rintro e w2 ⟨rfl, hI⟩
  replace HI := Lib.hid hI
  clear hI HS0 HB0
  rcases sa with _ | _
  · go_wp2
    go_ret
    exact ⟨rfl, HI.out.below⟩
  · have HB1 := Lib.hid HI.out.bx
    go_wp2_with (first | (go_guarded; refine box_load HB1.out 25 (.tmp 3) rfl rfl _ Tryd.underlying25 rfl infoM ?_; try simp only [Act.put, List.setIfInBounds_toArray, List.set_cons_zero, List.set_cons_succ]))
    refine (HS1.out _ _ HI.out).mono ?_
    rintro e w3 ⟨rfl, hI⟩
    replace HI := Lib.hid hI
    clear hI HS1 HB1
    rcases sb with _ | _
    · go_wp2
      go_ret
      exact ⟨rfl, HI.out.below⟩
    · have HB0 := Lib.hid HI.out.swap.bx
      go_wp2_with (first | (refine wpList_load_row rfl 25 (.tmp 2) rfl w.heap.size rfl 25 #[.int .i64 kind0, .int .i64 seq0, .int .i64 time0, .bool copy0, .int .i64 a0, .int .i64 b0, .bool gap0, .string text0, .string id0, .string ref0, .string order0, .string account0, .string symbol0, .int .i64 k0, .bool buy0, .int .i64 qty0, .int .i64 price0, .int .i64 tm0] (0, 0) _ HB0.out Tryd.underlying25 rfl infoM ?_))
      refine (HP0.out _ _ HI.out).mono ?_
      rintro e w4 ⟨A0, n0, c0, rfl, hs0, hI, _⟩
      replace HI := Lib.hid hI
      clear hI HP0 HB0
      have HB1 := Lib.hid HI.out.bx
      go_wp2_with (first | (refine wpList_load_row rfl 25 (.tmp 3) rfl (w.heap.size + 1) rfl 25 #[.int .i64 kind1, .int .i64 seq1, .int .i64 time1, .bool copy1, .int .i64 a1, .int .i64 b1, .bool gap1, .string text1, .string id1, .string ref1, .string order1, .string account1, .string symbol1, .int .i64 k1, .bool buy1, .int .i64 qty1, .int .i64 price1, .int .i64 tm1] (0, 0) _ HB1.out Tryd.underlying25 rfl infoM ?_))
      refine (HP1.out _ _ HI.out).mono ?_
      rintro e w5 ⟨A1, n1, c1, rfl, hs1, hI, hb5⟩
      replace HI := Lib.hid hI
      have hs0 := Lib.hid (hs0.on hb5)
      replace hs1 := Lib.hid hs1
      clear hI hb5 HP1 HB1
      rcases q0.out with ⟨rfl, r0, rfl⟩ | ⟨rfl, r0, rfl⟩
      · skip
        rcases q1.out with ⟨rfl, r1, rfl⟩ | ⟨rfl, r1, rfl⟩
        · skip
          have hxe := Lib.hid (show ((⟨v0.toArray⟩ : ByteArray).toList == (⟨v1.toArray⟩ : ByteArray).toList) = decide ((⟨kind0, seq0, time0, copy0, a0, b0, gap0, text0, ⟨id0, ref0, order0, account0, symbol0, k0, buy0, qty0, price0, tm0⟩⟩ : Mg) = ⟨kind1, seq1, time1, copy1, a1, b1, gap1, text1, ⟨id1, ref1, order1, account1, symbol1, k1, buy1, qty1, price1, tm1⟩⟩) from by rw [bytes_eq5, decide_eq_decide]; exact Heq.out r0 r1)
          have hst := Lib.hid (show (fun W => RI w [(w.heap.size + 1, 25, #[.int .i64 kind1, .int .i64 seq1, .int .i64 time1, .bool copy1, .int .i64 a1, .int .i64 b1, .bool gap1, .string text1, .string id1, .string ref1, .string order1, .string account1, .string symbol1, .int .i64 k1, .bool buy1, .int .i64 qty1, .int .i64 price1, .int .i64 tm1]), (w.heap.size, 25, #[.int .i64 kind0, .int .i64 seq0, .int .i64 time0, .bool copy0, .int .i64 a0, .int .i64 b0, .bool gap0, .string text0, .string id0, .string ref0, .string order0, .string account0, .string symbol0, .int .i64 k0, .bool buy0, .int .i64 qty0, .int .i64 price0, .int .i64 tm0])] W ∧ Sl W A0 n0 c0 1 (bcells v0) ∧ Sl W A1 n1 c1 1 (bcells v1)) (World.drew _) from ⟨HI.out.on (Below.refl _ _).drew, hs0.out.on (Below.refl _ _).drew, hs1.out.on (Below.refl _ _).drew⟩)
          go_upto_region 7 with fail
          refine wpQ_region (fun W => RI w [(w.heap.size + 1, 25, #[.int .i64 kind1, .int .i64 seq1, .int .i64 time1, .bool copy1, .int .i64 a1, .int .i64 b1, .bool gap1, .string text1, .string id1, .string ref1, .string order1, .string account1, .string symbol1, .int .i64 k1, .bool buy1, .int .i64 qty1, .int .i64 price1, .int .i64 tm1]), (w.heap.size, 25, #[.int .i64 kind0, .int .i64 seq0, .int .i64 time0, .bool copy0, .int .i64 a0, .int .i64 b0, .bool gap0, .string text0, .string id0, .string ref0, .string order0, .string account0, .string symbol0, .int .i64 k0, .bool buy0, .int .i64 qty0, .int .i64 price0, .int .i64 tm0])] W ∧ Sl W A0 n0 c0 1 (bcells v0) ∧ Sl W A1 n1 c1 1 (bcells v1)) (by kernel_rfl) (by kernel_rfl) hst.out ?_
          clear hst hs0 hs1 HI
          refine wpQ_move rfl (.tmp 6) (.inl rfl) (.int .i64 0) rfl ?_
          simp only [Act.put, List.setIfInBounds_toArray, List.set_cons_zero, List.set_cons_succ]
          refine wpQ_val rfl (.bool true) (fun w hc => by simp [go_sem, Act.eval]) ?_
          simp only [Act.put, List.setIfInBounds_toArray, List.set_cons_zero, List.set_cons_succ]
          refine wpQ_move rfl (.tmp 33) (.inl rfl) (.bool true) rfl ?_
          simp only [Act.put, List.setIfInBounds_toArray, List.set_cons_zero, List.set_cons_succ]
          refine wpQ_move rfl (.tmp 8) (.inl rfl) (.int .i64 0) rfl ?_
          simp only [Act.put, List.setIfInBounds_toArray, List.set_cons_zero, List.set_cons_succ]
          refine wpQ_val rfl (.bool true) (fun w hc => by simp [go_sem, Act.eval]) ?_
          simp only [Act.put, List.setIfInBounds_toArray, List.set_cons_zero, List.set_cons_succ]
          refine wpQ_pick rfl (.tmp 34) (.tmp 36) (.const (.bool false)) rfl true (.bool true) rfl rfl ?_
          simp only [Act.put, List.setIfInBounds_toArray, List.set_cons_zero, List.set_cons_succ]
          refine wpQ_move rfl (.tmp 37) (.inl rfl) (.bool true) rfl ?_
          simp only [Act.put, List.setIfInBounds_toArray, List.set_cons_zero, List.set_cons_succ]
          refine wpQ_move rfl (.tmp 5) (.inl rfl) (.slice A0 n0 c0) rfl ?_
          simp only [Act.put, List.setIfInBounds_toArray, List.set_cons_zero, List.set_cons_succ]
          refine wpQ_val rfl (.string ⟨v0.toArray⟩) (fun w hc => by simp [go_sem, Act.eval, conv_sl hc.2.1]) ?_
          simp only [Act.put, List.setIfInBounds_toArray, List.set_cons_zero, List.set_cons_succ]
          refine wpQ_move rfl (.tmp 7) (.inl rfl) (.slice A1 n1 c1) rfl ?_
          simp only [Act.put, List.setIfInBounds_toArray, List.set_cons_zero, List.set_cons_succ]
          refine wpQ_val rfl (.string ⟨v1.toArray⟩) (fun w hc => by simp [go_sem, Act.eval, conv_sl hc.2.2]) ?_
          simp only [Act.put, List.setIfInBounds_toArray, List.set_cons_zero, List.set_cons_succ]
          refine wpQ_val rfl (.bool ((⟨v0.toArray⟩ : ByteArray).toList == (⟨v1.toArray⟩ : ByteArray).toList)) (fun w hc => by simp [go_sem, Act.eval]) ?_
          simp only [Act.put, List.setIfInBounds_toArray, List.set_cons_zero, List.set_cons_succ]
          rw [hxe.out]
          refine wpQ_load rfl (fun W h => h.1.swap.bx) 25 (.tmp 2) rfl rfl _ Tryd.underlying25 rfl infoM ?_
          simp only [Act.put, List.setIfInBounds_toArray, List.set_cons_zero, List.set_cons_succ]
          refine wpQ_load rfl (fun W h => h.1.bx) 25 (.tmp 3) rfl rfl _ Tryd.underlying25 rfl infoM ?_
          simp only [Act.put, List.setIfInBounds_toArray, List.set_cons_zero, List.set_cons_succ]
          refine wpQ_eqM rfl (.tmp 44) (.tmp 45) rfl ⟨kind0, seq0, time0, copy0, a0, b0, gap0, text0, ⟨id0, ref0, order0, account0, symbol0, k0, buy0, qty0, price0, tm0⟩⟩ ⟨kind1, seq1, time1, copy1, a1, b1, gap1, text1, ⟨id1, ref1, order1, account1, symbol1, k1, buy1, qty1, price1, tm1⟩⟩ rfl rfl ?_
          simp only [Act.put, List.setIfInBounds_toArray, List.set_cons_zero, List.set_cons_succ]
          generalize decide ((⟨kind0, seq0, time0, copy0, a0, b0, gap0, text0, ⟨id0, ref0, order0, account0, symbol0, k0, buy0, qty0, price0, tm0⟩⟩ : Mg) = ⟨kind1, seq1, time1, copy1, a1, b1, gap1, text1, ⟨id1, ref1, order1, account1, symbol1, k1, buy1, qty1, price1, tm1⟩⟩) = dd
          refine wpQ_val rfl (.bool false) (fun w hc => by cases dd <;> simp [go_sem, Act.eval]) ?_
          simp only [Act.put, List.setIfInBounds_toArray, List.set_cons_zero, List.set_cons_succ]
          refine wpQ_pick rfl (.tmp 38) (.tmp 47) (.const (.bool false)) rfl true (.bool false) rfl rfl ?_
          simp only [Act.put, List.setIfInBounds_toArray, List.set_cons_zero, List.set_cons_succ]
          clear q1
          refine wpQuiet_nil ?_
          intro w9 hC9
          have hln0 : n0 = v0.length := by have := hC9.2.1.len; rw [bcells_len] at this; omega
          have hcap0 : n0 ≤ 9223372036854775807 := by have h1 := hC9.2.1.le; have h2 := hC9.2.1.cap; unfold maxLen at h2; omega
          have HB0 := Lib.hid (show Box w9 w.heap.size 25 #[.int .i64 kind0, .int .i64 seq0, .int .i64 time0, .bool copy0, .int .i64 a0, .int .i64 b0, .bool gap0, .string text0, .string id0, .string ref0, .string order0, .string account0, .string symbol0, .int .i64 k0, .bool buy0, .int .i64 qty0, .int .i64 price0, .int .i64 tm0] from hC9.1.box (w.heap.size, 25, #[.int .i64 kind0, .int .i64 seq0, .int .i64 time0, .bool copy0, .int .i64 a0, .int .i64 b0, .bool gap0, .string text0, .string id0, .string ref0, .string order0, .string account0, .string symbol0, .int .i64 k0, .bool buy0, .int .i64 qty0, .int .i64 price0, .int .i64 tm0]) (by simp))
          have HI := Lib.hid (hC9.1.add 25 #[.int .i64 0, .int .i64 0, .int .i64 0, .bool false, .int .i64 0, .int .i64 0, .bool false, .string ⟨#[]⟩, .string ⟨#[]⟩, .string ⟨#[]⟩, .string ⟨#[]⟩, .string ⟨#[]⟩, .string ⟨#[]⟩, .int .i64 0, .bool false, .int .i64 0, .int .i64 0, .int .i64 0])
          have HB0' := Lib.hid (HB0.out.alloc (.cells #[.int .i64 0, .int .i64 0, .int .i64 0, .bool false, .int .i64 0, .int .i64 0, .bool false, .string ⟨#[]⟩, .string ⟨#[]⟩, .string ⟨#[]⟩, .string ⟨#[]⟩, .string ⟨#[]⟩, .string ⟨#[]⟩, .int .i64 0, .bool false, .int .i64 0, .int .i64 0, .int .i64 0] 25))
          replace hln0 := Lib.hid hln0
          clear hC9
          go_upto_region 10 with (first | (refine wpList_load_row rfl 25 (.tmp 2) rfl w.heap.size rfl 25 #[.int .i64 kind0, .int .i64 seq0, .int .i64 time0, .bool copy0, .int .i64 a0, .int .i64 b0, .bool gap0, .string text0, .string id0, .string ref0, .string order0, .string account0, .string symbol0, .int .i64 k0, .bool buy0, .int .i64 qty0, .int .i64 price0, .int .i64 tm0] (0, 0) _ HB0.out Tryd.underlying25 rfl infoM ?_) | (refine ri_store rfl 25 (.tmp 9) (.tmp 49) rfl 0 #[.int .i64 kind0, .int .i64 seq0, .int .i64 time0, .bool copy0, .int .i64 a0, .int .i64 b0, .bool gap0, .string text0, .string id0, .string ref0, .string order0, .string account0, .string symbol0, .int .i64 k0, .bool buy0, .int .i64 qty0, .int .i64 price0, .int .i64 tm0] rfl rfl HI.out (Nat.le_refl 18) infoM (arr_one ⟨kind0, seq0, time0, copy0, a0, b0, gap0, text0, ⟨id0, ref0, order0, account0, symbol0, k0, buy0, qty0, price0, tm0⟩⟩) ?_; go_must (intro w10 hI10; clear HI; have HI := Lib.hid hI10; clear hI10; simp [setAll] at HI)))
          have hq3 := (show Box _ w.heap.size 25 #[.int .i64 kind0, .int .i64 seq0, .int .i64 time0, .bool copy0, .int .i64 a0, .int .i64 b0, .bool gap0, .string text0, .string id0, .string ref0, .string order0, .string account0, .string symbol0, .int .i64 k0, .bool buy0, .int .i64 qty0, .int .i64 price0, .int .i64 tm0] from HI.out.box (w.heap.size, 25, #[.int .i64 kind0, .int .i64 seq0, .int .i64 time0, .bool copy0, .int .i64 a0, .int .i64 b0, .bool gap0, .string text0, .string id0, .string ref0, .string order0, .string account0, .string symbol0, .int .i64 k0, .bool buy0, .int .i64 qty0, .int .i64 price0, .int .i64 tm0]) (by simp)).cell 3
          have hr3 := HI.out.bx.cell 3
          have hf3 := HI.out.bx.free 3
          simp at hq3 hr3
          generalize w9.heap.size = gz at *
          go_upto_region 11 with fail
          replace HI := Lib.hid (HI.out.set 3 (.bool (!copy0)))
          simp at HI
          clear hq3 hr3 hf3 HB0 HB0'
          go_wp2_with (first | (refine wpList_load_row rfl 25 (.tmp 9) rfl gz rfl 25 #[.int .i64 kind0, .int .i64 seq0, .int .i64 time0, .bool (!copy0), .int .i64 a0, .int .i64 b0, .bool gap0, .string text0, .string id0, .string ref0, .string order0, .string account0, .string symbol0, .int .i64 k0, .bool buy0, .int .i64 qty0, .int .i64 price0, .int .i64 tm0] (0, 0) _ HI.out.bx Tryd.underlying25 rfl infoM ?_))
          refine (HPc.out _ _ HI.out).mono ?_
          rintro e w12 ⟨Az, nz, cz, rfl, hsz, hI, _⟩
          have hlnz : nz = vc.length := by have := hsz.len; rw [bcells_len] at this; omega
          have hcapz : nz ≤ 9223372036854775807 := by have h1 := hsz.le; have h2 := hsz.cap; unfold maxLen at h2; omega
          replace hlnz := Lib.hid hlnz
          replace HI := Lib.hid hI
          clear hI hsz HPc
          have hbz := (HI.out.bx).cell 3
          have hbm := (show Box _ w.heap.size 25 #[.int .i64 kind0, .int .i64 seq0, .int .i64 time0, .bool copy0, .int .i64 a0, .int .i64 b0, .bool gap0, .string text0, .string id0, .string ref0, .string order0, .string account0, .string symbol0, .int .i64 k0, .bool buy0, .int .i64 qty0, .int .i64 price0, .int .i64 tm0] from HI.out.box (w.heap.size, 25, #[.int .i64 kind0, .int .i64 seq0, .int .i64 time0, .bool copy0, .int .i64 a0, .int .i64 b0, .bool gap0, .string text0, .string id0, .string ref0, .string order0, .string account0, .string symbol0, .int .i64 k0, .bool buy0, .int .i64 qty0, .int .i64 price0, .int .i64 tm0]) (by simp)).cell 3
          simp at hbz hbm
          rcases qc.out with ⟨rfl, _, rfl⟩ | ⟨_, h, _⟩
          rotate_left
          · exact absurd r0 h
          have hlz := hlnz.out
          have hl0 := hln0.out
          rcases copy0 with _ | _
          · have h5 := Hl1.out rfl
            have h5' : (nz : Int) - (n0 : Int) = 5 := by omega
            clear qc hlnz hln0 hlz hl0 h5 Heq Hl1 Hl2
            go_wp2
            go_ret
            exact ⟨rfl, HI.out.below⟩
          · have h5 := Hl2.out rfl
            have h5' : (n0 : Int) - (nz : Int) = 5 := by omega
            have h6 : (nz : Int) - (n0 : Int) = -5 := by omega
            clear qc hlnz hln0 hlz hl0 h5 Heq Hl1 Hl2
            go_wp2
            go_ret
            exact ⟨rfl, HI.out.below⟩
        · skip
          have hst := Lib.hid (show (fun W => RI w [(w.heap.size + 1, 25, #[.int .i64 kind1, .int .i64 seq1, .int .i64 time1, .bool copy1, .int .i64 a1, .int .i64 b1, .bool gap1, .string text1, .string id1, .string ref1, .string order1, .string account1, .string symbol1, .int .i64 k1, .bool buy1, .int .i64 qty1, .int .i64 price1, .int .i64 tm1]), (w.heap.size, 25, #[.int .i64 kind0, .int .i64 seq0, .int .i64 time0, .bool copy0, .int .i64 a0, .int .i64 b0, .bool gap0, .string text0, .string id0, .string ref0, .string order0, .string account0, .string symbol0, .int .i64 k0, .bool buy0, .int .i64 qty0, .int .i64 price0, .int .i64 tm0])] W ∧ Sl W A0 n0 c0 1 (bcells v0) ∧ Sl W A1 n1 c1 1 (bcells ([] : List UInt8))) (World.drew _) from ⟨HI.out.on (Below.refl _ _).drew, hs0.out.on (Below.refl _ _).drew, hs1.out.on (Below.refl _ _).drew⟩)
          go_upto_region 7 with fail
          refine wpQ_region (fun W => RI w [(w.heap.size + 1, 25, #[.int .i64 kind1, .int .i64 seq1, .int .i64 time1, .bool copy1, .int .i64 a1, .int .i64 b1, .bool gap1, .string text1, .string id1, .string ref1, .string order1, .string account1, .string symbol1, .int .i64 k1, .bool buy1, .int .i64 qty1, .int .i64 price1, .int .i64 tm1]), (w.heap.size, 25, #[.int .i64 kind0, .int .i64 seq0, .int .i64 time0, .bool copy0, .int .i64 a0, .int .i64 b0, .bool gap0, .string text0, .string id0, .string ref0, .string order0, .string account0, .string symbol0, .int .i64 k0, .bool buy0, .int .i64 qty0, .int .i64 price0, .int .i64 tm0])] W ∧ Sl W A0 n0 c0 1 (bcells v0) ∧ Sl W A1 n1 c1 1 (bcells ([] : List UInt8))) (by kernel_rfl) (by kernel_rfl) hst.out ?_
          clear hst hs0 hs1 HI
          refine wpQ_move rfl (.tmp 6) (.inl rfl) (.int .i64 0) rfl ?_
          simp only [Act.put, List.setIfInBounds_toArray, List.set_cons_zero, List.set_cons_succ]
          refine wpQ_val rfl (.bool true) (fun w hc => by simp [go_sem, Act.eval]) ?_
          simp only [Act.put, List.setIfInBounds_toArray, List.set_cons_zero, List.set_cons_succ]
          refine wpQ_move rfl (.tmp 33) (.inl rfl) (.bool true) rfl ?_
          simp only [Act.put, List.setIfInBounds_toArray, List.set_cons_zero, List.set_cons_succ]
          refine wpQ_move rfl (.tmp 8) (.inl rfl) (.int .i64 1) rfl ?_
          simp only [Act.put, List.setIfInBounds_toArray, List.set_cons_zero, List.set_cons_succ]
          refine wpQ_val rfl (.bool false) (fun w hc => by simp [go_sem, Act.eval]) ?_
          simp only [Act.put, List.setIfInBounds_toArray, List.set_cons_zero, List.set_cons_succ]
          refine wpQ_pick rfl (.tmp 34) (.tmp 36) (.const (.bool false)) rfl true (.bool false) rfl rfl ?_
          simp only [Act.put, List.setIfInBounds_toArray, List.set_cons_zero, List.set_cons_succ]
          refine wpQ_move rfl (.tmp 37) (.inl rfl) (.bool false) rfl ?_
          simp only [Act.put, List.setIfInBounds_toArray, List.set_cons_zero, List.set_cons_succ]
          go_big_quiet_skip
          go_big_quiet_skip
          go_big_quiet_skip
          go_big_quiet_skip
          go_big_quiet_skip
          go_big_quiet_skip
          go_big_quiet_skip
          go_big_quiet_skip
          go_big_quiet_skip
          refine wpQ_pick rfl (.tmp 38) (.tmp 47) (.const (.bool false)) rfl false (.bool false) rfl rfl ?_
          simp only [Act.put, List.setIfInBounds_toArray, List.set_cons_zero, List.set_cons_succ]
          clear q1
          refine wpQuiet_nil ?_
          intro w9 hC9
          have hln0 : n0 = v0.length := by have := hC9.2.1.len; rw [bcells_len] at this; omega
          have hcap0 : n0 ≤ 9223372036854775807 := by have h1 := hC9.2.1.le; have h2 := hC9.2.1.cap; unfold maxLen at h2; omega
          have HB0 := Lib.hid (show Box w9 w.heap.size 25 #[.int .i64 kind0, .int .i64 seq0, .int .i64 time0, .bool copy0, .int .i64 a0, .int .i64 b0, .bool gap0, .string text0, .string id0, .string ref0, .string order0, .string account0, .string symbol0, .int .i64 k0, .bool buy0, .int .i64 qty0, .int .i64 price0, .int .i64 tm0] from hC9.1.box (w.heap.size, 25, #[.int .i64 kind0, .int .i64 seq0, .int .i64 time0, .bool copy0, .int .i64 a0, .int .i64 b0, .bool gap0, .string text0, .string id0, .string ref0, .string order0, .string account0, .string symbol0, .int .i64 k0, .bool buy0, .int .i64 qty0, .int .i64 price0, .int .i64 tm0]) (by simp))
          have HI := Lib.hid (hC9.1.add 25 #[.int .i64 0, .int .i64 0, .int .i64 0, .bool false, .int .i64 0, .int .i64 0, .bool false, .string ⟨#[]⟩, .string ⟨#[]⟩, .string ⟨#[]⟩, .string ⟨#[]⟩, .string ⟨#[]⟩, .string ⟨#[]⟩, .int .i64 0, .bool false, .int .i64 0, .int .i64 0, .int .i64 0])
          have HB0' := Lib.hid (HB0.out.alloc (.cells #[.int .i64 0, .int .i64 0, .int .i64 0, .bool false, .int .i64 0, .int .i64 0, .bool false, .string ⟨#[]⟩, .string ⟨#[]⟩, .string ⟨#[]⟩, .string ⟨#[]⟩, .string ⟨#[]⟩, .string ⟨#[]⟩, .int .i64 0, .bool false, .int .i64 0, .int .i64 0, .int .i64 0] 25))
          replace hln0 := Lib.hid hln0
          clear hC9
          go_upto_region 10 with (first | (refine wpList_load_row rfl 25 (.tmp 2) rfl w.heap.size rfl 25 #[.int .i64 kind0, .int .i64 seq0, .int .i64 time0, .bool copy0, .int .i64 a0, .int .i64 b0, .bool gap0, .string text0, .string id0, .string ref0, .string order0, .string account0, .string symbol0, .int .i64 k0, .bool buy0, .int .i64 qty0, .int .i64 price0, .int .i64 tm0] (0, 0) _ HB0.out Tryd.underlying25 rfl infoM ?_) | (refine ri_store rfl 25 (.tmp 9) (.tmp 49) rfl 0 #[.int .i64 kind0, .int .i64 seq0, .int .i64 time0, .bool copy0, .int .i64 a0, .int .i64 b0, .bool gap0, .string text0, .string id0, .string ref0, .string order0, .string account0, .string symbol0, .int .i64 k0, .bool buy0, .int .i64 qty0, .int .i64 price0, .int .i64 tm0] rfl rfl HI.out (Nat.le_refl 18) infoM (arr_one ⟨kind0, seq0, time0, copy0, a0, b0, gap0, text0, ⟨id0, ref0, order0, account0, symbol0, k0, buy0, qty0, price0, tm0⟩⟩) ?_; go_must (intro w10 hI10; clear HI; have HI := Lib.hid hI10; clear hI10; simp [setAll] at HI)))
          have hq3 := (show Box _ w.heap.size 25 #[.int .i64 kind0, .int .i64 seq0, .int .i64 time0, .bool copy0, .int .i64 a0, .int .i64 b0, .bool gap0, .string text0, .string id0, .string ref0, .string order0, .string account0, .string symbol0, .int .i64 k0, .bool buy0, .int .i64 qty0, .int .i64 price0, .int .i64 tm0] from HI.out.box (w.heap.size, 25, #[.int .i64 kind0, .int .i64 seq0, .int .i64 time0, .bool copy0, .int .i64 a0, .int .i64 b0, .bool gap0, .string text0, .string id0, .string ref0, .string order0, .string account0, .string symbol0, .int .i64 k0, .bool buy0, .int .i64 qty0, .int .i64 price0, .int .i64 tm0]) (by simp)).cell 3
          have hr3 := HI.out.bx.cell 3
          have hf3 := HI.out.bx.free 3
          simp at hq3 hr3
          generalize w9.heap.size = gz at *
          go_upto_region 11 with fail
          replace HI := Lib.hid (HI.out.set 3 (.bool (!copy0)))
          simp at HI
          clear hq3 hr3 hf3 HB0 HB0'
          go_wp2_with (first | (refine wpList_load_row rfl 25 (.tmp 9) rfl gz rfl 25 #[.int .i64 kind0, .int .i64 seq0, .int .i64 time0, .bool (!copy0), .int .i64 a0, .int .i64 b0, .bool gap0, .string text0, .string id0, .string ref0, .string order0, .string account0, .string symbol0, .int .i64 k0, .bool buy0, .int .i64 qty0, .int .i64 price0, .int .i64 tm0] (0, 0) _ HI.out.bx Tryd.underlying25 rfl infoM ?_))
          refine (HPc.out _ _ HI.out).mono ?_
          rintro e w12 ⟨Az, nz, cz, rfl, hsz, hI, _⟩
          have hlnz : nz = vc.length := by have := hsz.len; rw [bcells_len] at this; omega
          have hcapz : nz ≤ 9223372036854775807 := by have h1 := hsz.le; have h2 := hsz.cap; unfold maxLen at h2; omega
          replace hlnz := Lib.hid hlnz
          replace HI := Lib.hid hI
          clear hI hsz HPc
          have hbz := (HI.out.bx).cell 3
          have hbm := (show Box _ w.heap.size 25 #[.int .i64 kind0, .int .i64 seq0, .int .i64 time0, .bool copy0, .int .i64 a0, .int .i64 b0, .bool gap0, .string text0, .string id0, .string ref0, .string order0, .string account0, .string symbol0, .int .i64 k0, .bool buy0, .int .i64 qty0, .int .i64 price0, .int .i64 tm0] from HI.out.box (w.heap.size, 25, #[.int .i64 kind0, .int .i64 seq0, .int .i64 time0, .bool copy0, .int .i64 a0, .int .i64 b0, .bool gap0, .string text0, .string id0, .string ref0, .string order0, .string account0, .string symbol0, .int .i64 k0, .bool buy0, .int .i64 qty0, .int .i64 price0, .int .i64 tm0]) (by simp)).cell 3
          simp at hbz hbm
          rcases qc.out with ⟨rfl, _, rfl⟩ | ⟨_, h, _⟩
          rotate_left
          · exact absurd r0 h
          have hlz := hlnz.out
          have hl0 := hln0.out
          rcases copy0 with _ | _
          · have h5 := Hl1.out rfl
            have h5' : (nz : Int) - (n0 : Int) = 5 := by omega
            clear qc hlnz hln0 hlz hl0 h5 Heq Hl1 Hl2
            go_wp2
            go_ret
            exact ⟨rfl, HI.out.below⟩
          · have h5 := Hl2.out rfl
            have h5' : (n0 : Int) - (nz : Int) = 5 := by omega
            have h6 : (nz : Int) - (n0 : Int) = -5 := by omega
            clear qc hlnz hln0 hlz hl0 h5 Heq Hl1 Hl2
            go_wp2
            go_ret
            exact ⟨rfl, HI.out.below⟩
      · skip
        rcases q1.out with ⟨rfl, r1, rfl⟩ | ⟨rfl, r1, rfl⟩
        · skip
          have hst := Lib.hid (show (fun W => RI w [(w.heap.size + 1, 25, #[.int .i64 kind1, .int .i64 seq1, .int .i64 time1, .bool copy1, .int .i64 a1, .int .i64 b1, .bool gap1, .string text1, .string id1, .string ref1, .string order1, .string account1, .string symbol1, .int .i64 k1, .bool buy1, .int .i64 qty1, .int .i64 price1, .int .i64 tm1]), (w.heap.size, 25, #[.int .i64 kind0, .int .i64 seq0, .int .i64 time0, .bool copy0, .int .i64 a0, .int .i64 b0, .bool gap0, .string text0, .string id0, .string ref0, .string order0, .string account0, .string symbol0, .int .i64 k0, .bool buy0, .int .i64 qty0, .int .i64 price0, .int .i64 tm0])] W ∧ Sl W A0 n0 c0 1 (bcells ([] : List UInt8)) ∧ Sl W A1 n1 c1 1 (bcells v1)) (World.drew _) from ⟨HI.out.on (Below.refl _ _).drew, hs0.out.on (Below.refl _ _).drew, hs1.out.on (Below.refl _ _).drew⟩)
          go_upto_region 7 with fail
          refine wpQ_region (fun W => RI w [(w.heap.size + 1, 25, #[.int .i64 kind1, .int .i64 seq1, .int .i64 time1, .bool copy1, .int .i64 a1, .int .i64 b1, .bool gap1, .string text1, .string id1, .string ref1, .string order1, .string account1, .string symbol1, .int .i64 k1, .bool buy1, .int .i64 qty1, .int .i64 price1, .int .i64 tm1]), (w.heap.size, 25, #[.int .i64 kind0, .int .i64 seq0, .int .i64 time0, .bool copy0, .int .i64 a0, .int .i64 b0, .bool gap0, .string text0, .string id0, .string ref0, .string order0, .string account0, .string symbol0, .int .i64 k0, .bool buy0, .int .i64 qty0, .int .i64 price0, .int .i64 tm0])] W ∧ Sl W A0 n0 c0 1 (bcells ([] : List UInt8)) ∧ Sl W A1 n1 c1 1 (bcells v1)) (by kernel_rfl) (by kernel_rfl) hst.out ?_
          clear hst hs0 hs1 HI
          refine wpQ_move rfl (.tmp 6) (.inl rfl) (.int .i64 1) rfl ?_
          simp only [Act.put, List.setIfInBounds_toArray, List.set_cons_zero, List.set_cons_succ]
          refine wpQ_val rfl (.bool false) (fun w hc => by simp [go_sem, Act.eval]) ?_
          simp only [Act.put, List.setIfInBounds_toArray, List.set_cons_zero, List.set_cons_succ]
          refine wpQ_move rfl (.tmp 33) (.inl rfl) (.bool false) rfl ?_
          simp only [Act.put, List.setIfInBounds_toArray, List.set_cons_zero, List.set_cons_succ]
          go_big_quiet_skip
          go_big_quiet_skip
          refine wpQ_pick rfl (.tmp 34) (.tmp 36) (.const (.bool false)) rfl false (.bool false) rfl rfl ?_
          simp only [Act.put, List.setIfInBounds_toArray, List.set_cons_zero, List.set_cons_succ]
          refine wpQ_move rfl (.tmp 37) (.inl rfl) (.bool false) rfl ?_
          simp only [Act.put, List.setIfInBounds_toArray, List.set_cons_zero, List.set_cons_succ]
          go_big_quiet_skip
          go_big_quiet_skip
          go_big_quiet_skip
          go_big_quiet_skip
          go_big_quiet_skip
          go_big_quiet_skip
          go_big_quiet_skip
          go_big_quiet_skip
          go_big_quiet_skip
          refine wpQ_pick rfl (.tmp 38) (.tmp 47) (.const (.bool false)) rfl false (.bool false) rfl rfl ?_
          simp only [Act.put, List.setIfInBounds_toArray, List.set_cons_zero, List.set_cons_succ]
          clear q1
          refine wpQuiet_nil ?_
          intro w9 hC9
          have hln0 : n0 = ([] : List UInt8).length := by have := hC9.2.1.len; rw [bcells_len] at this; omega
          have hcap0 : n0 ≤ 9223372036854775807 := by have h1 := hC9.2.1.le; have h2 := hC9.2.1.cap; unfold maxLen at h2; omega
          have HB0 := Lib.hid (show Box w9 w.heap.size 25 #[.int .i64 kind0, .int .i64 seq0, .int .i64 time0, .bool copy0, .int .i64 a0, .int .i64 b0, .bool gap0, .string text0, .string id0, .string ref0, .string order0, .string account0, .string symbol0, .int .i64 k0, .bool buy0, .int .i64 qty0, .int .i64 price0, .int .i64 tm0] from hC9.1.box (w.heap.size, 25, #[.int .i64 kind0, .int .i64 seq0, .int .i64 time0, .bool copy0, .int .i64 a0, .int .i64 b0, .bool gap0, .string text0, .string id0, .string ref0, .string order0, .string account0, .string symbol0, .int .i64 k0, .bool buy0, .int .i64 qty0, .int .i64 price0, .int .i64 tm0]) (by simp))
          have HI := Lib.hid (hC9.1.add 25 #[.int .i64 0, .int .i64 0, .int .i64 0, .bool false, .int .i64 0, .int .i64 0, .bool false, .string ⟨#[]⟩, .string ⟨#[]⟩, .string ⟨#[]⟩, .string ⟨#[]⟩, .string ⟨#[]⟩, .string ⟨#[]⟩, .int .i64 0, .bool false, .int .i64 0, .int .i64 0, .int .i64 0])
          have HB0' := Lib.hid (HB0.out.alloc (.cells #[.int .i64 0, .int .i64 0, .int .i64 0, .bool false, .int .i64 0, .int .i64 0, .bool false, .string ⟨#[]⟩, .string ⟨#[]⟩, .string ⟨#[]⟩, .string ⟨#[]⟩, .string ⟨#[]⟩, .string ⟨#[]⟩, .int .i64 0, .bool false, .int .i64 0, .int .i64 0, .int .i64 0] 25))
          replace hln0 := Lib.hid hln0
          clear hC9
          go_upto_region 10 with (first | (refine wpList_load_row rfl 25 (.tmp 2) rfl w.heap.size rfl 25 #[.int .i64 kind0, .int .i64 seq0, .int .i64 time0, .bool copy0, .int .i64 a0, .int .i64 b0, .bool gap0, .string text0, .string id0, .string ref0, .string order0, .string account0, .string symbol0, .int .i64 k0, .bool buy0, .int .i64 qty0, .int .i64 price0, .int .i64 tm0] (0, 0) _ HB0.out Tryd.underlying25 rfl infoM ?_) | (refine ri_store rfl 25 (.tmp 9) (.tmp 49) rfl 0 #[.int .i64 kind0, .int .i64 seq0, .int .i64 time0, .bool copy0, .int .i64 a0, .int .i64 b0, .bool gap0, .string text0, .string id0, .string ref0, .string order0, .string account0, .string symbol0, .int .i64 k0, .bool buy0, .int .i64 qty0, .int .i64 price0, .int .i64 tm0] rfl rfl HI.out (Nat.le_refl 18) infoM (arr_one ⟨kind0, seq0, time0, copy0, a0, b0, gap0, text0, ⟨id0, ref0, order0, account0, symbol0, k0, buy0, qty0, price0, tm0⟩⟩) ?_; go_must (intro w10 hI10; clear HI; have HI := Lib.hid hI10; clear hI10; simp [setAll] at HI)))
          have hq3 := (show Box _ w.heap.size 25 #[.int .i64 kind0, .int .i64 seq0, .int .i64 time0, .bool copy0, .int .i64 a0, .int .i64 b0, .bool gap0, .string text0, .string id0, .string ref0, .string order0, .string account0, .string symbol0, .int .i64 k0, .bool buy0, .int .i64 qty0, .int .i64 price0, .int .i64 tm0] from HI.out.box (w.heap.size, 25, #[.int .i64 kind0, .int .i64 seq0, .int .i64 time0, .bool copy0, .int .i64 a0, .int .i64 b0, .bool gap0, .string text0, .string id0, .string ref0, .string order0, .string account0, .string symbol0, .int .i64 k0, .bool buy0, .int .i64 qty0, .int .i64 price0, .int .i64 tm0]) (by simp)).cell 3
          have hr3 := HI.out.bx.cell 3
          have hf3 := HI.out.bx.free 3
          simp at hq3 hr3
          generalize w9.heap.size = gz at *
          go_upto_region 11 with fail
          replace HI := Lib.hid (HI.out.set 3 (.bool (!copy0)))
          simp at HI
          clear hq3 hr3 hf3 HB0 HB0'
          go_wp2_with (first | (refine wpList_load_row rfl 25 (.tmp 9) rfl gz rfl 25 #[.int .i64 kind0, .int .i64 seq0, .int .i64 time0, .bool (!copy0), .int .i64 a0, .int .i64 b0, .bool gap0, .string text0, .string id0, .string ref0, .string order0, .string account0, .string symbol0, .int .i64 k0, .bool buy0, .int .i64 qty0, .int .i64 price0, .int .i64 tm0] (0, 0) _ HI.out.bx Tryd.underlying25 rfl infoM ?_))
          refine (HPc.out _ _ HI.out).mono ?_
          rintro e w12 ⟨Az, nz, cz, rfl, hsz, hI, _⟩
          have hlnz : nz = vc.length := by have := hsz.len; rw [bcells_len] at this; omega
          have hcapz : nz ≤ 9223372036854775807 := by have h1 := hsz.le; have h2 := hsz.cap; unfold maxLen at h2; omega
          replace hlnz := Lib.hid hlnz
          replace HI := Lib.hid hI
          clear hI hsz HPc
          have hbz := (HI.out.bx).cell 3
          have hbm := (show Box _ w.heap.size 25 #[.int .i64 kind0, .int .i64 seq0, .int .i64 time0, .bool copy0, .int .i64 a0, .int .i64 b0, .bool gap0, .string text0, .string id0, .string ref0, .string order0, .string account0, .string symbol0, .int .i64 k0, .bool buy0, .int .i64 qty0, .int .i64 price0, .int .i64 tm0] from HI.out.box (w.heap.size, 25, #[.int .i64 kind0, .int .i64 seq0, .int .i64 time0, .bool copy0, .int .i64 a0, .int .i64 b0, .bool gap0, .string text0, .string id0, .string ref0, .string order0, .string account0, .string symbol0, .int .i64 k0, .bool buy0, .int .i64 qty0, .int .i64 price0, .int .i64 tm0]) (by simp)).cell 3
          simp at hbz hbm
          rcases qc.out with ⟨_, h, _⟩ | ⟨rfl, _, rfl⟩
          · exact absurd h r0
          · clear qc hlnz hln0 Heq Hl1 Hl2
            go_wp2
            go_ret
            exact ⟨rfl, HI.out.below⟩
        · skip
          have hst := Lib.hid (show (fun W => RI w [(w.heap.size + 1, 25, #[.int .i64 kind1, .int .i64 seq1, .int .i64 time1, .bool copy1, .int .i64 a1, .int .i64 b1, .bool gap1, .string text1, .string id1, .string ref1, .string order1, .string account1, .string symbol1, .int .i64 k1, .bool buy1, .int .i64 qty1, .int .i64 price1, .int .i64 tm1]), (w.heap.size, 25, #[.int .i64 kind0, .int .i64 seq0, .int .i64 time0, .bool copy0, .int .i64 a0, .int .i64 b0, .bool gap0, .string text0, .string id0, .string ref0, .string order0, .string account0, .string symbol0, .int .i64 k0, .bool buy0, .int .i64 qty0, .int .i64 price0, .int .i64 tm0])] W ∧ Sl W A0 n0 c0 1 (bcells ([] : List UInt8)) ∧ Sl W A1 n1 c1 1 (bcells ([] : List UInt8))) (World.drew _) from ⟨HI.out.on (Below.refl _ _).drew, hs0.out.on (Below.refl _ _).drew, hs1.out.on (Below.refl _ _).drew⟩)
          go_upto_region 7 with fail
          refine wpQ_region (fun W => RI w [(w.heap.size + 1, 25, #[.int .i64 kind1, .int .i64 seq1, .int .i64 time1, .bool copy1, .int .i64 a1, .int .i64 b1, .bool gap1, .string text1, .string id1, .string ref1, .string order1, .string account1, .string symbol1, .int .i64 k1, .bool buy1, .int .i64 qty1, .int .i64 price1, .int .i64 tm1]), (w.heap.size, 25, #[.int .i64 kind0, .int .i64 seq0, .int .i64 time0, .bool copy0, .int .i64 a0, .int .i64 b0, .bool gap0, .string text0, .string id0, .string ref0, .string order0, .string account0, .string symbol0, .int .i64 k0, .bool buy0, .int .i64 qty0, .int .i64 price0, .int .i64 tm0])] W ∧ Sl W A0 n0 c0 1 (bcells ([] : List UInt8)) ∧ Sl W A1 n1 c1 1 (bcells ([] : List UInt8))) (by kernel_rfl) (by kernel_rfl) hst.out ?_
          clear hst hs0 hs1 HI
          refine wpQ_move rfl (.tmp 6) (.inl rfl) (.int .i64 1) rfl ?_
          simp only [Act.put, List.setIfInBounds_toArray, List.set_cons_zero, List.set_cons_succ]
          refine wpQ_val rfl (.bool false) (fun w hc => by simp [go_sem, Act.eval]) ?_
          simp only [Act.put, List.setIfInBounds_toArray, List.set_cons_zero, List.set_cons_succ]
          refine wpQ_move rfl (.tmp 33) (.inl rfl) (.bool false) rfl ?_
          simp only [Act.put, List.setIfInBounds_toArray, List.set_cons_zero, List.set_cons_succ]
          go_big_quiet_skip
          go_big_quiet_skip
          refine wpQ_pick rfl (.tmp 34) (.tmp 36) (.const (.bool false)) rfl false (.bool false) rfl rfl ?_
          simp only [Act.put, List.setIfInBounds_toArray, List.set_cons_zero, List.set_cons_succ]
          refine wpQ_move rfl (.tmp 37) (.inl rfl) (.bool false) rfl ?_
          simp only [Act.put, List.setIfInBounds_toArray, List.set_cons_zero, List.set_cons_succ]
          go_big_quiet_skip
          go_big_quiet_skip
          go_big_quiet_skip
          go_big_quiet_skip
          go_big_quiet_skip
          go_big_quiet_skip
          go_big_quiet_skip
          go_big_quiet_skip
          go_big_quiet_skip
          refine wpQ_pick rfl (.tmp 38) (.tmp 47) (.const (.bool false)) rfl false (.bool false) rfl rfl ?_
          simp only [Act.put, List.setIfInBounds_toArray, List.set_cons_zero, List.set_cons_succ]
          clear q1
          refine wpQuiet_nil ?_
          intro w9 hC9
          have hln0 : n0 = ([] : List UInt8).length := by have := hC9.2.1.len; rw [bcells_len] at this; omega
          have hcap0 : n0 ≤ 9223372036854775807 := by have h1 := hC9.2.1.le; have h2 := hC9.2.1.cap; unfold maxLen at h2; omega
          have HB0 := Lib.hid (show Box w9 w.heap.size 25 #[.int .i64 kind0, .int .i64 seq0, .int .i64 time0, .bool copy0, .int .i64 a0, .int .i64 b0, .bool gap0, .string text0, .string id0, .string ref0, .string order0, .string account0, .string symbol0, .int .i64 k0, .bool buy0, .int .i64 qty0, .int .i64 price0, .int .i64 tm0] from hC9.1.box (w.heap.size, 25, #[.int .i64 kind0, .int .i64 seq0, .int .i64 time0, .bool copy0, .int .i64 a0, .int .i64 b0, .bool gap0, .string text0, .string id0, .string ref0, .string order0, .string account0, .string symbol0, .int .i64 k0, .bool buy0, .int .i64 qty0, .int .i64 price0, .int .i64 tm0]) (by simp))
          have HI := Lib.hid (hC9.1.add 25 #[.int .i64 0, .int .i64 0, .int .i64 0, .bool false, .int .i64 0, .int .i64 0, .bool false, .string ⟨#[]⟩, .string ⟨#[]⟩, .string ⟨#[]⟩, .string ⟨#[]⟩, .string ⟨#[]⟩, .string ⟨#[]⟩, .int .i64 0, .bool false, .int .i64 0, .int .i64 0, .int .i64 0])
          have HB0' := Lib.hid (HB0.out.alloc (.cells #[.int .i64 0, .int .i64 0, .int .i64 0, .bool false, .int .i64 0, .int .i64 0, .bool false, .string ⟨#[]⟩, .string ⟨#[]⟩, .string ⟨#[]⟩, .string ⟨#[]⟩, .string ⟨#[]⟩, .string ⟨#[]⟩, .int .i64 0, .bool false, .int .i64 0, .int .i64 0, .int .i64 0] 25))
          replace hln0 := Lib.hid hln0
          clear hC9
          go_upto_region 10 with (first | (refine wpList_load_row rfl 25 (.tmp 2) rfl w.heap.size rfl 25 #[.int .i64 kind0, .int .i64 seq0, .int .i64 time0, .bool copy0, .int .i64 a0, .int .i64 b0, .bool gap0, .string text0, .string id0, .string ref0, .string order0, .string account0, .string symbol0, .int .i64 k0, .bool buy0, .int .i64 qty0, .int .i64 price0, .int .i64 tm0] (0, 0) _ HB0.out Tryd.underlying25 rfl infoM ?_) | (refine ri_store rfl 25 (.tmp 9) (.tmp 49) rfl 0 #[.int .i64 kind0, .int .i64 seq0, .int .i64 time0, .bool copy0, .int .i64 a0, .int .i64 b0, .bool gap0, .string text0, .string id0, .string ref0, .string order0, .string account0, .string symbol0, .int .i64 k0, .bool buy0, .int .i64 qty0, .int .i64 price0, .int .i64 tm0] rfl rfl HI.out (Nat.le_refl 18) infoM (arr_one ⟨kind0, seq0, time0, copy0, a0, b0, gap0, text0, ⟨id0, ref0, order0, account0, symbol0, k0, buy0, qty0, price0, tm0⟩⟩) ?_; go_must (intro w10 hI10; clear HI; have HI := Lib.hid hI10; clear hI10; simp [setAll] at HI)))
          have hq3 := (show Box _ w.heap.size 25 #[.int .i64 kind0, .int .i64 seq0, .int .i64 time0, .bool copy0, .int .i64 a0, .int .i64 b0, .bool gap0, .string text0, .string id0, .string ref0, .string order0, .string account0, .string symbol0, .int .i64 k0, .bool buy0, .int .i64 qty0, .int .i64 price0, .int .i64 tm0] from HI.out.box (w.heap.size, 25, #[.int .i64 kind0, .int .i64 seq0, .int .i64 time0, .bool copy0, .int .i64 a0, .int .i64 b0, .bool gap0, .string text0, .string id0, .string ref0, .string order0, .string account0, .string symbol0, .int .i64 k0, .bool buy0, .int .i64 qty0, .int .i64 price0, .int .i64 tm0]) (by simp)).cell 3
          have hr3 := HI.out.bx.cell 3
          have hf3 := HI.out.bx.free 3
          simp at hq3 hr3
          generalize w9.heap.size = gz at *
          go_upto_region 11 with fail
          replace HI := Lib.hid (HI.out.set 3 (.bool (!copy0)))
          simp at HI
          clear hq3 hr3 hf3 HB0 HB0'
          go_wp2_with (first | (refine wpList_load_row rfl 25 (.tmp 9) rfl gz rfl 25 #[.int .i64 kind0, .int .i64 seq0, .int .i64 time0, .bool (!copy0), .int .i64 a0, .int .i64 b0, .bool gap0, .string text0, .string id0, .string ref0, .string order0, .string account0, .string symbol0, .int .i64 k0, .bool buy0, .int .i64 qty0, .int .i64 price0, .int .i64 tm0] (0, 0) _ HI.out.bx Tryd.underlying25 rfl infoM ?_))
          refine (HPc.out _ _ HI.out).mono ?_
          rintro e w12 ⟨Az, nz, cz, rfl, hsz, hI, _⟩
          have hlnz : nz = vc.length := by have := hsz.len; rw [bcells_len] at this; omega
          have hcapz : nz ≤ 9223372036854775807 := by have h1 := hsz.le; have h2 := hsz.cap; unfold maxLen at h2; omega
          replace hlnz := Lib.hid hlnz
          replace HI := Lib.hid hI
          clear hI hsz HPc
          have hbz := (HI.out.bx).cell 3
          have hbm := (show Box _ w.heap.size 25 #[.int .i64 kind0, .int .i64 seq0, .int .i64 time0, .bool copy0, .int .i64 a0, .int .i64 b0, .bool gap0, .string text0, .string id0, .string ref0, .string order0, .string account0, .string symbol0, .int .i64 k0, .bool buy0, .int .i64 qty0, .int .i64 price0, .int .i64 tm0] from HI.out.box (w.heap.size, 25, #[.int .i64 kind0, .int .i64 seq0, .int .i64 time0, .bool copy0, .int .i64 a0, .int .i64 b0, .bool gap0, .string text0, .string id0, .string ref0, .string order0, .string account0, .string symbol0, .int .i64 k0, .bool buy0, .int .i64 qty0, .int .i64 price0, .int .i64 tm0]) (by simp)).cell 3
          simp at hbz hbm
          rcases qc.out with ⟨_, h, _⟩ | ⟨rfl, _, rfl⟩
          · exact absurd h r0
          · clear qc hlnz hln0 Heq Hl1 Hl2
            go_wp2
            go_ret
            exact ⟨rfl, HI.out.below⟩
end Go.Proofs.YtcfpchcbiknehaaDoorR
