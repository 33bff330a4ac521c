/-
  Layer 5's laws: the walk of MsgBack.
-/
import Derived.Test.YtcfpchcbiknehaaDoorRLaw05
import Derived.Test.YtcfpchcbiknehaaDoorRFrmRight
namespace Go.Proofs.YtcfpchcbiknehaaDoorR
open Go.RowKit

theorem ri_store2 {ops : Array Oper} {rest : List Oper} {op : Oper} {a : Act} {Q : Exit → Act → World → Prop} {w W : World} {bs : List (Nat × TypeId × Array Value)} {gx : Nat} {t : TypeId} {cs : Array Value} (hgd : op.guard = none) (ty : TypeId) (x y : Operand) (ho : op.op = .store ty x y)
    (off : Nat) (vs : Array Value) (hx : a.eval x = .pointer (some ⟨gx, off, none⟩)) (hy : a.eval y = .agg vs) (h : RI w ((gx, t, cs) :: bs) W) (hsz : off + vs.size ≤ cs.size)
    (hi : (Tryd.prog.info? ty).map (·.size) = some vs.size) (h1 : vs.all (·.oneCell') = true)
    (hk : ∀ w', RI w ((gx, t, setAll cs off vs.toList) :: bs) w' → (∀ (B : Nat) (a : World), B ≤ gx → Below B a W → Below B a w') → wpList Tryd.prog ops Q rest (a.put op.dst undef) w') : wpList Tryd.prog ops Q (op :: rest) a W :=
  wpList_store_mid hgd ty x y ho gx off vs hx hy (there_box h.bx off vs.size hsz) hi h1 (hk _ (h.sets off vs.toList) fun B a hB hb => below_sets hB vs.toList off hb)
theorem RI.tail5 {w W : World} {b : Nat × TypeId × Array Value} {bs : List (Nat × TypeId × Array Value)} (h : RI w (b :: bs) W) : RI w bs W :=
  ⟨fun x hx => h.box x (List.mem_cons_of_mem _ hx), fun x hx => h.low x (List.mem_cons_of_mem _ hx), (List.nodup_cons.1 (show (b.1 :: bs.map (·.1)).Nodup from h.nd)).2, h.below⟩
theorem excB_in {x : Exc} (h : excB x = true) : x.In := by
  have e := excB_iff.1 h
  have hn : ∀ s, nm s = true → s.size ≤ maxLen := fun s hs => by have := (nm_right hs).2; unfold maxLen; omega
  have hq : 0 ≤ x.qty ∧ x.qty ≤ 1099511627776 := by simpa [small] using e.qty
  have hp : 0 ≤ x.price ∧ x.price ≤ 1099511627776 := by simpa [small] using e.price
  have ht : 0 ≤ x.time ∧ x.time ≤ 4611686018427387904 := by simpa [timeR] using e.time
  have hk := e.kind
  refine ⟨by omega, by omega, by omega, by omega, hn _ e.id, ?_, hn _ e.order, hn _ e.account, hn _ e.symbol⟩
  have hr := e.ref
  unfold refB at hr
  split at hr
  · exact hn _ hr
  · rw [of_decide_eq_true hr]; exact Nat.zero_le _
theorem MsgR.in_ {m : Mg} (h : MsgR m) : m.In := by
  have ha : 0 ≤ m.a ∧ m.a ≤ 1099511627776 := by simpa [small] using h.sa
  have hb : 0 ≤ m.b ∧ m.b ≤ 1099511627776 := by simpa [small] using h.sb
  have ht : 0 ≤ m.time ∧ m.time ≤ 4611686018427387904 := by simpa [timeR] using h.time
  have hk := h.kind
  have hs := h.seq
  have hx : m.text.size ≤ 64 := by have := h.stext; unfold textB at this; simp only [Bool.and_eq_true, decide_eq_true_eq] at this; exact this.1
  refine ⟨by omega, by omega, by omega, by omega, by omega, by unfold maxLen; omega, ?_⟩
  by_cases h7 : m.kind = 7
  · exact excB_in (h.kinded.ex7 h7)
  · rw [h.kinded.ex h7]; exact Exc.zero_in
theorem mReadV_in (b : List UInt8) : (mReadV b).In := by
  by_cases h : mReadE b = 0
  · exact (mRead_ok h).1.in_
  · rw [mRead_bad h]; exact ⟨by decide, by decide, by decide, by decide, by decide, Nat.zero_le _, Exc.zero_in⟩
/-- What is read, and what becomes of it. -/
def BackQ (ys : List UInt8) (m : Mg) (er : Int) : Prop := (er ≠ 0 → m = Mg.zero) ∧ (er = 0 → msgB m = true ∧ putL (msgL m) = ys)
theorem backQ (ys : List UInt8) : BackQ ys (mReadV ys) (mReadE ys) := ⟨mRead_bad, fun h => ⟨msgB_iff.2 (mRead_ok h).1, (mRead_ok h).2⟩⟩
set_option maxRecDepth 100000 in
set_option maxHeartbeats 20000000 in
theorem walk_MsgBack (m : Mg) (hm : m.In) (A : Option Addr) (n c : Nat) (bs : List UInt8) (hn : bs.length = n) (w : World) (h : Sl w A n c 1 (bcells bs)) (hctx : FCtx w) :
    Calls Tryd.prog 4 #[m.val, .slice A n c] w fun e w' => e = .returned (.bool true) ∧ Below w.heap.size w w' := by
  obtain ⟨ys, e, hs, hl⟩ : ∃ ys : List UInt8, (min (n : Int) 3000).toNat = ys.length ∧ Sl w A ys.length c 1 (bcells ys) ∧ ys.length ≤ 3000 := by
    refine ⟨bs.take 3000, by simp [hn]; omega, ?_, by simp; omega⟩
    have := h.cutTo5 (m := (bs.take 3000).length) hn (by simp; omega)
    rwa [show bs.take (bs.take 3000).length = bs.take 3000 by rw [List.length_take, ← List.take_eq_take_min]] at this
  have hcm : c ≤ 9223372036854775807 := by have := h.cap; unfold maxLen at this; omega
  have hnc := h.le
  have hyc := hs.le
  have HS := Lib.hid (fun (W : World) (hb : Below w.heap.size w W) => hs.on hb)
  have HC := Lib.hid (fun (W : World) (hb : Below w.heap.size w W) => hctx.on hb)
  -- the reading of what came in
  have HR := Lib.hid (fun (bb : List (Nat × TypeId × Array Value)) (W : World) (hI : RI w bb W) => (own_Read5 A c ys W (HS.out W hI.below) (by omega) (HC.out W hI.below)).mono fun e W' ⟨he, hb⟩ => (show e = Ending.returned (.tuple #[(mReadV ys).val, .int .i64 (mReadE ys)]) ∧ RI w bb W' from ⟨he, hI.on hb⟩))
  have hQ := backQ ys
  have hmi := mReadV_in ys
  generalize mReadV ys = mx at *
  generalize mReadE ys = er at *
  have HPx := Lib.hid (fun (bb : List (Nat × TypeId × Array Value)) (W : World) (hI : RI w bb W) => (own_Put5 mx hmi W (HC.out W hI.below)).mono fun e W' ⟨Ap, np, cp, he, hs, hb⟩ => (show ∃ Ap np cp, e = Ending.returned (.tuple #[.slice Ap np cp, .int .i64 (mPutE mx)]) ∧ Sl W' Ap np cp 1 (bcells (mPutV mx)) ∧ RI w bb W' from ⟨Ap, np, cp, he, hs, hI.on hb⟩))
  have HRx := Lib.hid (fun (bb : List (Nat × TypeId × Array Value)) (W : World) (hI : RI w bb W) => (own_Right5 mx hmi W).mono fun e W' ⟨he, hb⟩ => (show e = Ending.returned (.bool (msgB mx)) ∧ RI w bb W' from ⟨he, hI.on hb⟩))
  clear hmi
  -- what is said
  have HP := Lib.hid (fun (bb : List (Nat × TypeId × Array Value)) (W : World) (hI : RI w bb W) => (own_Put5 m hm W (HC.out W hI.below)).mono fun e W' ⟨Ap, np, cp, he, hs, hb⟩ => (show ∃ Ap np cp, e = Ending.returned (.tuple #[.slice Ap np cp, .int .i64 (mPutE m)]) ∧ Sl W' Ap np cp 1 (bcells (mPutV m)) ∧ RI w bb W' from ⟨Ap, np, cp, he, hs, hI.on hb⟩))
  have HRm := Lib.hid (fun (bb : List (Nat × TypeId × Array Value)) (W : World) (hI : RI w bb W) => (own_Right5 m hm W).mono fun e W' ⟨he, hb⟩ => (show e = Ending.returned (.bool (msgB m)) ∧ RI w bb W' from ⟨he, hI.on hb⟩))
  have HSh := Lib.hid (fun (bb : List (Nat × TypeId × Array Value)) (W : World) (hI : RI w bb W) => (ref_Short5 m hm W).mono fun e W' ⟨he, hb⟩ => (show e = Ending.returned (.bool (shortM m)) ∧ RI w bb W' from ⟨he, hI.on hb⟩))
  have HA := Lib.hid (fun (bb : List (Nat × TypeId × Array Value)) (W : World) (hI : RI w bb W) => (awake05 W (HC.out W hI.below)).mono fun e W' ⟨he, hb⟩ => (show e = Ending.returned (.bool true) ∧ RI w bb W' from ⟨he, hI.on hb⟩))
  have HG := Lib.hid (fun (hr : MsgR m) => (show True from trivial))
  generalize hsh : shortM m = sh at *
  have HMs := Lib.hid (show MsgR m → mReadV (putL (msgL m)) = m ∧ mReadE (putL (msgL m)) = 0 ∧ parseF (putL (msgL m)) = .ok (msgL m) ∧ 3 ≤ (msgL m).length ∧ (msgL m).length ≤ 14 ∧ frmR (putL (msgL m)) = true ∧ (putL (msgL m)).length ≤ 980 from fun hr => ⟨(mRead_put hr).1, (mRead_put hr).2, msg_parse hr, (msgL_len m).1, (msgL_len m).2, msg_body hr, (msg_bytes hr).2⟩)
  have HL0 := Lib.hid (show ∃ v r, msgL m = ⟨35, v⟩ :: r from ⟨_, _, rfl⟩)
  have hPE : (msgB m = true → mPutE m = 0 ∧ mPutV m = putL (msgL m)) ∧ (msgB m = false → mPutE m = 1 ∧ mPutV m = []) := ⟨fun h => by unfold mPutE mPutV; rw [h]; exact ⟨rfl, rfl⟩, fun h => by unfold mPutE mPutV; rw [h]; exact ⟨rfl, rfl⟩⟩
  replace hPE := Lib.hid hPE
  have hMR := Lib.hid (fun h => msgB_iff.1 (show msgB m = true from h))
  clear hs hctx hm
  obtain ⟨kindx, seqx, timex, copyx, ax, bx, gapx, textx, ⟨idx, refx, orderx, accountx, symbolx, kx, buyx, qtyx, pricex, tmx⟩⟩ := mx
  rw [show (Mg.val ⟨kindx, seqx, timex, copyx, ax, bx, gapx, textx, ⟨idx, refx, orderx, accountx, symbolx, kx, buyx, qtyx, pricex, tmx⟩⟩) = .agg #[.int .i64 kindx, .int .i64 seqx, .int .i64 timex, .bool copyx, .int .i64 ax, .int .i64 bx, .bool gapx, .string textx, .string idx, .string refx, .string orderx, .string accountx, .string symbolx, .int .i64 kx, .bool buyx, .int .i64 qtyx, .int .i64 pricex, .int .i64 tmx] from rfl] at HR HPx HRx
  replace hQ := Lib.hid hQ
  obtain ⟨kind0, seq0, time0, copy0, a0, b0, gap0, text0, ⟨id0, ref0, order0, account0, symbol0, k0, buy0, qty0, price0, tm0⟩⟩ := m
  rw [show (Mg.val ⟨kind0, seq0, time0, copy0, a0, b0, gap0, text0, ⟨id0, ref0, order0, account0, symbol0, k0, buy0, qty0, price0, tm0⟩⟩) = .agg #[.int .i64 kind0, .int .i64 seq0, .int .i64 time0, .bool copy0, .int .i64 a0, .int .i64 b0, .bool gap0, .string text0, .string id0, .string ref0, .string order0, .string account0, .string symbol0, .int .i64 k0, .bool buy0, .int .i64 qty0, .int .i64 price0, .int .i64 tm0] from rfl] at HP HRm HSh
  rw [show (Mg.val ⟨kind0, seq0, time0, copy0, a0, b0, gap0, text0, ⟨id0, ref0, order0, account0, symbol0, k0, buy0, qty0, price0, tm0⟩⟩) = .agg #[.int .i64 kind0, .int .i64 seq0, .int .i64 time0, .bool copy0, .int .i64 a0, .int .i64 b0, .bool gap0, .string text0, .string id0, .string ref0, .string order0, .string account0, .string symbol0, .int .i64 k0, .bool buy0, .int .i64 qty0, .int .i64 price0, .int .i64 tm0] from rfl]
  have HI0 := Lib.hid ((RI.start w).add 25 #[.int .i64 kind0, .int .i64 seq0, .int .i64 time0, .bool copy0, .int .i64 a0, .int .i64 b0, .bool gap0, .string text0, .string id0, .string ref0, .string order0, .string account0, .string symbol0, .int .i64 k0, .bool buy0, .int .i64 qty0, .int .i64 price0, .int .i64 tm0])
  go_enter Tryd.func4, Tryd.ntmps4
  go_wp2_with fail
  refine (HA.out _ _ HI0.out).mono ?_
  rintro e w1 ⟨rfl, hI⟩
  have HI := Lib.hid hI
  clear hI HI0
  go_wp2_with (first | (refine wpList_load_row rfl 25 (.tmp 2) rfl w.heap.size rfl 25 #[.int .i64 kind0, .int .i64 seq0, .int .i64 time0, .bool copy0, .int .i64 a0, .int .i64 b0, .bool gap0, .string text0, .string id0, .string ref0, .string order0, .string account0, .string symbol0, .int .i64 k0, .bool buy0, .int .i64 qty0, .int .i64 price0, .int .i64 tm0] (0, 0) _ HI.out.bx Tryd.underlying25 rfl infoM ?_))
  refine (HSh.out _ _ HI.out).mono ?_
  rintro e w2 ⟨rfl, hI⟩
  replace HI := Lib.hid hI
  clear hI
  rcases sh with _ | _
  · go_wp2
    go_ret
    exact ⟨rfl, HI.out.below⟩
  · go_wp2_with (first | (refine wpList_load_row rfl 25 (.tmp 2) rfl w.heap.size rfl 25 #[.int .i64 kind0, .int .i64 seq0, .int .i64 time0, .bool copy0, .int .i64 a0, .int .i64 b0, .bool gap0, .string text0, .string id0, .string ref0, .string order0, .string account0, .string symbol0, .int .i64 k0, .bool buy0, .int .i64 qty0, .int .i64 price0, .int .i64 tm0] (0, 0) _ HI.out.bx Tryd.underlying25 rfl infoM ?_))
    refine (HP.out _ _ HI.out).mono ?_
    rintro e w3 ⟨Ap, np, cp, rfl, hsp, hI⟩
    replace HI := Lib.hid hI
    replace hsp := Lib.hid hsp
    clear hI HP HSh
    generalize hpe : mPutE ⟨kind0, seq0, time0, copy0, a0, b0, gap0, text0, ⟨id0, ref0, order0, account0, symbol0, k0, buy0, qty0, price0, tm0⟩⟩ = pe at *
    generalize hpv : mPutV ⟨kind0, seq0, time0, copy0, a0, b0, gap0, text0, ⟨id0, ref0, order0, account0, symbol0, k0, buy0, qty0, price0, tm0⟩⟩ = pv at *
    replace hpe := Lib.hid hpe
    replace hpv := Lib.hid hpv
    go_upto_if 26 with fail
    go_cut [5, 6, 25, 26] (fun _ _ _ _ wx => RI w [(w.heap.size, 25, #[.int .i64 kind0, .int .i64 seq0, .int .i64 time0, .bool copy0, .int .i64 a0, .int .i64 b0, .bool gap0, .string text0, .string id0, .string ref0, .string order0, .string account0, .string symbol0, .int .i64 k0, .bool buy0, .int .i64 qty0, .int .i64 price0, .int .i64 tm0])] wx)
    case first =>
      clear HR HPx HRx hQ
      rcases hb : msgB ⟨kind0, seq0, time0, copy0, a0, b0, gap0, text0, ⟨id0, ref0, order0, account0, symbol0, k0, buy0, qty0, price0, tm0⟩⟩ with _ | _
      · have ⟨g1, g2⟩ := hPE.out.2 hb
        subst g1
        subst g2
        have hnp : np = 0 := by have := hsp.out.len; simp [bcells] at this; omega
        subst hnp
        rw [hb] at HRm
        clear hb HMs hPE hMR HL0 hsp hpe hpv
        go_wp2_with (first | (refine wpList_load_row rfl 25 (.tmp 2) rfl w.heap.size rfl 25 #[.int .i64 kind0, .int .i64 seq0, .int .i64 time0, .bool copy0, .int .i64 a0, .int .i64 b0, .bool gap0, .string text0, .string id0, .string ref0, .string order0, .string account0, .string symbol0, .int .i64 k0, .bool buy0, .int .i64 qty0, .int .i64 price0, .int .i64 tm0] (0, 0) _ HI.out.bx Tryd.underlying25 rfl infoM ?_))
        refine (HRm.out _ _ HI.out).mono ?_
        rintro e w4 ⟨rfl, hI⟩
        replace HI := Lib.hid hI
        clear hI
        go_wp2
        go_meet
        case rel => exact HI.out
      · have ⟨g1, g2⟩ := hPE.out.1 hb
        obtain ⟨r1, r2, r3, r4, r5, r6, r7⟩ := HMs.out (hMR.out hb)
        subst g1
        rw [g2] at hsp
        rw [hb] at HRm
        clear hb HMs hPE hMR g2 hpe hpv
        obtain ⟨lv, lr, hlv⟩ := HL0.out
        generalize msgL ⟨kind0, seq0, time0, copy0, a0, b0, gap0, text0, ⟨id0, ref0, order0, account0, symbol0, k0, buy0, qty0, price0, tm0⟩⟩ = l at *
        subst hlv
        generalize hpb : putL (⟨35, lv⟩ :: lr) = pb at *
        clear hpb HL0
        have hnp : pb.length = np := by have := hsp.out.len; rw [bcells_len] at this; omega
        have HRd := Lib.hid (fun (bb : List (Nat × TypeId × Array Value)) (W : World) (hI : RI w bb W) (hs : Sl W Ap np cp 1 (bcells pb)) => (own_Read5 Ap cp pb W (by rw [hnp]; exact hs) (by omega) (HC.out W hI.below)).mono fun e W' ⟨he, hb⟩ => (show e = Ending.returned (.tuple #[(mReadV pb).val, .int .i64 (mReadE pb)]) ∧ RI w bb W' ∧ Sl W' Ap np cp 1 (bcells pb) from ⟨he, hI.on hb, hs.on hb⟩))
        have HPa := Lib.hid (fun (bb : List (Nat × TypeId × Array Value)) (W : World) (hI : RI w bb W) (hs : Sl W Ap np cp 1 (bcells pb)) => (field_Parse Ap cp pb W (by rw [hnp]; exact hs) (by omega) (HC.out W hI.below)).mono fun e W' ⟨A2, n2, c2, he, hs2, hb, _⟩ => (show ∃ A2 n2 c2, e = Ending.returned (.tuple #[.slice A2 n2 c2, .int .i64 (resE (parseF pb))]) ∧ Sl W' A2 n2 c2 2 (fcells (resL (parseF pb))) ∧ RI w bb W' ∧ Sl W' Ap np cp 1 (bcells pb) from ⟨A2, n2, c2, he, hs2, hI.on hb, hs.on hb⟩))
        have HFr := Lib.hid (fun (bb : List (Nat × TypeId × Array Value)) (W : World) (hI : RI w bb W) (hs : Sl W Ap np cp 1 (bcells pb)) => (frame_Right Ap np cp pb W hs hnp (by omega) (HC.out W hI.below)).mono fun e W' ⟨he, hb⟩ => (show e = Ending.returned (.bool (frmR pb)) ∧ RI w bb W' from ⟨he, hI.on hb⟩))
        rw [r1, r2, show (Mg.val ⟨kind0, seq0, time0, copy0, a0, b0, gap0, text0, ⟨id0, ref0, order0, account0, symbol0, k0, buy0, qty0, price0, tm0⟩⟩) = .agg #[.int .i64 kind0, .int .i64 seq0, .int .i64 time0, .bool copy0, .int .i64 a0, .int .i64 b0, .bool gap0, .string text0, .string id0, .string ref0, .string order0, .string account0, .string symbol0, .int .i64 k0, .bool buy0, .int .i64 qty0, .int .i64 price0, .int .i64 tm0] from rfl, hnp] at HRd
        rw [r3, hnp, show resE (Except.ok (⟨35, lv⟩ :: lr) : Except Int (List Fld)) = 0 from rfl] at HPa
        rw [r6] at HFr
        clear r1 r2 r3 r6 r7
        go_wp2_with fail
        refine (HRd.out _ _ HI.out hsp.out).mono ?_
        rintro e w4 ⟨rfl, hI, hs4⟩
        replace HI := Lib.hid (hI.add 25 #[.int .i64 0, .int .i64 0, .int .i64 0, .bool false, .int .i64 0, .int .i64 0, .bool false, .string ⟨#[]⟩, .string ⟨#[]⟩, .string ⟨#[]⟩, .string ⟨#[]⟩, .string ⟨#[]⟩, .string ⟨#[]⟩, .int .i64 0, .bool false, .int .i64 0, .int .i64 0, .int .i64 0])
        have hsp4 := Lib.hid hs4
        have hb4 := Lib.hid ((Below.refl w4.heap.size w4).alloc (Nat.le_refl _) (.cells #[.int .i64 0, .int .i64 0, .int .i64 0, .bool false, .int .i64 0, .int .i64 0, .bool false, .string ⟨#[]⟩, .string ⟨#[]⟩, .string ⟨#[]⟩, .string ⟨#[]⟩, .string ⟨#[]⟩, .string ⟨#[]⟩, .int .i64 0, .bool false, .int .i64 0, .int .i64 0, .int .i64 0] 25))
        clear hI hs4 HRd hsp
        go_upto_region 8 with (first | (refine ri_store2 rfl 25 (.tmp 7) (.tmp 30) rfl 0 #[.int .i64 kind0, .int .i64 seq0, .int .i64 time0, .bool copy0, .int .i64 a0, .int .i64 b0, .bool gap0, .string text0, .string id0, .string ref0, .string order0, .string account0, .string symbol0, .int .i64 k0, .bool buy0, .int .i64 qty0, .int .i64 price0, .int .i64 tm0] rfl rfl HI.out (Nat.le_refl 18) infoM (arr_one ⟨kind0, seq0, time0, copy0, a0, b0, gap0, text0, ⟨id0, ref0, order0, account0, symbol0, k0, buy0, qty0, price0, tm0⟩⟩) ?_; go_must (intro w5 hI5 hB5; have hsp := Lib.hid (hsp4.out.on (hB5 _ _ (Nat.le_refl _) hb4.out)); clear HI hB5 hb4 hsp4; have HI := Lib.hid hI5; clear hI5; simp [setAll] at HI)))
        generalize w4.heap.size = gn at *
        go_wp2_with fail
        refine (HPa.out _ _ HI.out hsp.out).mono ?_
        rintro e w6 ⟨A2, n2, c2, rfl, hs2, hI, hs6⟩
        replace HI := Lib.hid hI
        replace hsp := Lib.hid hs6
        clear hI hs6 HPa
        have hn2 : n2 = lr.length + 1 := by have := hs2.len; simp [fcells_len, resL] at this; omega
        have hc2 := hs2.le
        have hcm2 : c2 ≤ 9223372036854775807 := by have := hs2.cap; unfold maxLen at this; exact this
        have hl3 : 3 ≤ n2 := by simp at r4; omega
        obtain ⟨b2, o2, rfl, h20, h21⟩ := hs2.row.fld (k := 0) (show 0 < (resL (Except.ok (⟨35, lv⟩ :: lr))).length by simp [resL])
        simp [resL] at h20
        have HFx := Lib.hid (HFr.out _ _ HI.out hsp.out)
        have HBn := Lib.hid HI.out.bx
        have HBm := Lib.hid HI.out.swap.bx
        have hn20 : (0 : Int) < (n2 : Int) := by omega
        have hn23 : ¬ ((n2 : Int) < 3) := by omega
        have hd23 : decide ((n2 : Int) < 3) = false := decide_eq_false hn23
        clear hs2 h21 r4 r5 hn2
        go_wp2_with (first | (go_guarded; refine box_load HBn.out 25 (.tmp 7) rfl rfl _ Tryd.underlying25 rfl infoM ?_; try simp only [Act.put, List.setIfInBounds_toArray, List.set_cons_zero, List.set_cons_succ]) | (go_guarded; refine box_load HBm.out 25 (.tmp 2) rfl rfl _ Tryd.underlying25 rfl infoM ?_; try simp only [Act.put, List.setIfInBounds_toArray, List.set_cons_zero, List.set_cons_succ]) | (go_guarded; refine wp_neM (.tmp 40) (.tmp 41) rfl ⟨kind0, seq0, time0, copy0, a0, b0, gap0, text0, ⟨id0, ref0, order0, account0, symbol0, k0, buy0, qty0, price0, tm0⟩⟩ ⟨kind0, seq0, time0, copy0, a0, b0, gap0, text0, ⟨id0, ref0, order0, account0, symbol0, k0, buy0, qty0, price0, tm0⟩⟩ rfl rfl ?_; go_must (rw [decide_eq_true rfl]); try simp only [Act.put, List.setIfInBounds_toArray, List.set_cons_zero, List.set_cons_succ]))
        refine HFx.out.mono ?_
        rintro e w7 ⟨rfl, hI7⟩
        have HBm7 := Lib.hid hI7.swap.bx
        have HI7 := Lib.hid hI7
        clear hI7 HBm HBn HFx HI
        go_wp2_with (first | (go_guarded; refine box_load HBm7.out 25 (.tmp 2) rfl rfl _ Tryd.underlying25 rfl infoM ?_; try simp only [Act.put, List.setIfInBounds_toArray, List.set_cons_zero, List.set_cons_succ]) | (go_at_call 10; refine (HRm.out _ _ HI7.out).mono ?_; go_must (rintro e w8 ⟨rfl, hI8⟩)))
        go_meet
        case rel => exact hI8.tail5
    case rest =>
      have HI := Lib.hid hcut
      clear hcut HMs HL0 HRm HA hsp hpe hpv hPE hMR
      go_wp2_with fail
      refine (HR.out _ _ HI.out).mono ?_
      rintro e w5 ⟨rfl, hI⟩
      replace HI := Lib.hid (hI.add 25 #[.int .i64 0, .int .i64 0, .int .i64 0, .bool false, .int .i64 0, .int .i64 0, .bool false, .string ⟨#[]⟩, .string ⟨#[]⟩, .string ⟨#[]⟩, .string ⟨#[]⟩, .string ⟨#[]⟩, .string ⟨#[]⟩, .int .i64 0, .bool false, .int .i64 0, .int .i64 0, .int .i64 0])
      clear hI HR
      go_upto_region 15 with (first | (refine ri_store rfl 25 (.tmp 11) (.tmp 85) rfl 0 #[.int .i64 kindx, .int .i64 seqx, .int .i64 timex, .bool copyx, .int .i64 ax, .int .i64 bx, .bool gapx, .string textx, .string idx, .string refx, .string orderx, .string accountx, .string symbolx, .int .i64 kx, .bool buyx, .int .i64 qtyx, .int .i64 pricex, .int .i64 tmx] rfl rfl HI.out (Nat.le_refl 18) infoM (arr_one ⟨kindx, seqx, timex, copyx, ax, bx, gapx, textx, ⟨idx, refx, orderx, accountx, symbolx, kx, buyx, qtyx, pricex, tmx⟩⟩) ?_; go_must (intro w6 hI6; clear HI; have HI := Lib.hid hI6; clear hI6; simp [setAll] at HI)))
      generalize w5.heap.size = gx at *
      by_cases he : er = 0
      · obtain ⟨g1, g2⟩ := hQ.out.2 he
        subst he
        have hpe : mPutE ⟨kindx, seqx, timex, copyx, ax, bx, gapx, textx, ⟨idx, refx, orderx, accountx, symbolx, kx, buyx, qtyx, pricex, tmx⟩⟩ = 0 ∧ mPutV ⟨kindx, seqx, timex, copyx, ax, bx, gapx, textx, ⟨idx, refx, orderx, accountx, symbolx, kx, buyx, qtyx, pricex, tmx⟩⟩ = putL (msgL ⟨kindx, seqx, timex, copyx, ax, bx, gapx, textx, ⟨idx, refx, orderx, accountx, symbolx, kx, buyx, qtyx, pricex, tmx⟩⟩) := by unfold mPutE mPutV; rw [g1]; exact ⟨rfl, rfl⟩
        rw [hpe.1, hpe.2, g2] at HPx
        rw [g1] at HRx
        clear hQ hpe g1 g2
        go_wp2_with (first | (refine wpList_load_row rfl 25 (.tmp 11) rfl gx rfl 25 #[.int .i64 kindx, .int .i64 seqx, .int .i64 timex, .bool copyx, .int .i64 ax, .int .i64 bx, .bool gapx, .string textx, .string idx, .string refx, .string orderx, .string accountx, .string symbolx, .int .i64 kx, .bool buyx, .int .i64 qtyx, .int .i64 pricex, .int .i64 tmx] (0, 0) _ HI.out.bx Tryd.underlying25 rfl infoM ?_))
        refine (HPx.out _ _ HI.out).mono ?_
        rintro e w7 ⟨Aq, nq, cq, rfl, hsq, hI⟩
        replace HI := Lib.hid hI
        clear hI HPx
        have hv1 := conv_sl hsq
        have hv2 := conv_sl (HS.out _ HI.out.below)
        have HBx := Lib.hid HI.out.bx
        clear hsq HS
        go_wp2_with (first | (go_guarded; refine box_load HBx.out 25 (.tmp 11) rfl rfl _ Tryd.underlying25 rfl infoM ?_; try simp only [Act.put, List.setIfInBounds_toArray, List.set_cons_zero, List.set_cons_succ]) | (go_at_call 10; refine (HRx.out _ _ HI.out).mono ?_; go_must (rintro e w8 ⟨rfl, hI8⟩)))
        go_ret
        exact ⟨rfl, hI8.below⟩
      · have HZ := Lib.hid (show decide (⟨kindx, seqx, timex, copyx, ax, bx, gapx, textx, ⟨idx, refx, orderx, accountx, symbolx, kx, buyx, qtyx, pricex, tmx⟩⟩ = Mg.zero) = true from decide_eq_true (hQ.out.1 he))
        have hne : (er == 0) = false ∧ (er != 0) = true := ⟨by simpa using he, by simpa using he⟩
        clear hQ he HPx HRx HS
        go_wp2_with (first | (refine wpList_load_row rfl 25 (.tmp 11) rfl gx rfl 25 #[.int .i64 kindx, .int .i64 seqx, .int .i64 timex, .bool copyx, .int .i64 ax, .int .i64 bx, .bool gapx, .string textx, .string idx, .string refx, .string orderx, .string accountx, .string symbolx, .int .i64 kx, .bool buyx, .int .i64 qtyx, .int .i64 pricex, .int .i64 tmx] (0, 0) _ HI.out.bx Tryd.underlying25 rfl infoM ?_) | (refine list_eqM rfl (.tmp 89) (.tmp 90) rfl ⟨kindx, seqx, timex, copyx, ax, bx, gapx, textx, ⟨idx, refx, orderx, accountx, symbolx, kx, buyx, qtyx, pricex, tmx⟩⟩ Mg.zero rfl rfl ?_; go_must (rw [HZ.out])))
        go_ret
        exact ⟨rfl, HI.out.below⟩
end Go.Proofs.YtcfpchcbiknehaaDoorR
