/-
  Layer 5, msg: the program's Read: its contract.
-/
import Derived.Test.YtcfpchcbiknehaaDoorRMsgOwnRead
import Derived.Test.YtcfpchcbiknehaaDoorRMsgOwnFields
import Derived.Test.YtcfpchcbiknehaaDoorRMsgReadPost
import Derived.Test.YtcfpchcbiknehaaDoorRBytesEq
namespace Go.Proofs.YtcfpchcbiknehaaDoorR
open Go.RowKit

theorem resE_err {bs : List UInt8} (h : resE (parseF bs) ≠ 0) : mReadV bs = Mg.zero ∧ mReadE bs = resE (parseF bs) := by
  unfold mReadV mReadE
  cases hp : parseF bs with
  | error e => exact ⟨rfl, rfl⟩
  | ok l => rw [hp] at h; exact absurd rfl h
set_option maxRecDepth 100000 in
set_option maxHeartbeats 10000000 in
theorem own_Read5 (A0 : Option Addr) (c0 : Nat) (bs : List UInt8) (w : World) (h : Sl w A0 bs.length c0 1 (bcells bs)) (hl0 : bs.length ≤ 1000000) (hctx : FCtx w) : Calls Tryd.prog 16 #[.slice A0 bs.length c0] w (MReadPost bs w) := by
  have H0 := (RI.start w).add 25 #[.int .i64 0, .int .i64 0, .int .i64 0, .bool false, .int .i64 0, .int .i64 0, .bool false, .string ⟨#[]⟩, .string ⟨#[]⟩, .string ⟨#[]⟩, .string ⟨#[]⟩, .string ⟨#[]⟩, .string ⟨#[]⟩, .int .i64 0, .bool false, .int .i64 0, .int .i64 0, .int .i64 0]
  have HP := Lib.hid (field_Parse A0 c0 bs _ (h.on H0.below) hl0 (hctx.on H0.below))
  have HF := Lib.hid (fun (e : Ending) (w' : World) (v : Value) (n : Int) (bb : List (Nat × TypeId × Array Value)) (he : e = .returned (.tuple #[v, .int .i64 n])) (hv : v = (mReadV bs).val) (hn : n = mReadE bs) (hR : RI w bb w') => (show MReadPost bs w e w' from ⟨by rw [he, hv, hn], hR.below⟩))
  have HS := Lib.hid (fun (W : World) (hb : Below w.heap.size w W) => h.on hb)
  have HC := Lib.hid (fun (W : World) (hb : Below w.heap.size w W) => hctx.on hb)
  have HR0 := Lib.hid H0
  clear h H0 hctx
  generalize hbl : bs.length = bl at *
  go_enter Tryd.func16, Tryd.ntmps16
  go_wp2_with fail
  refine HP.out.mono ?_
  rintro e w1 ⟨A, n, c, rfl, hsl, hb1, _⟩
  have HI := Lib.hid (HR0.out.on hb1)
  clear HP HR0 hb1
  by_cases he : resE (parseF bs) = 0
  · obtain ⟨hpf, hrt, hl1⟩ := resL_right he
    rw [he]
    have hput : putL (resL (parseF bs)) = bs := by
      rcases parse_cases5 bs (by
        rcases Nat.lt_or_ge 65536 bs.length with hl | hl
        · exfalso; unfold parseF at he; rw [if_pos hl] at he; exact absurd he (by decide)
        · exact hl) with ⟨e, h1, h2⟩ | ⟨l', h1, h2, _⟩
      · rw [h1] at he; exact absurd he h2
      · rw [h1]; exact h2
    generalize resL (parseF bs) = l at *
    have hn : l.length = n := by have := hsl.len; rw [fcells_len] at this; omega
    have hv : ∀ f ∈ l, f.val.size ≤ 1000000 := fun f hf => by have := List.all_eq_true.1 hrt f hf; unfold Fld.right at this; simp only [Bool.and_eq_true] at this; have h2 := (rightV_iff.1 this.2).2.1; simp at h2; omega
    have HG := Lib.hid (own_good (l := l) (b := bs))
    have HBd := Lib.hid (own_bad (l := l) (b := bs) hpf hrt hput)
    have HMs := Lib.hid (fun (bb : List (Nat × TypeId × Array Value)) (W : World) (hI : RI w bb W) (hbb : Below w1.heap.size w1 W) => (own_message5 A c l W (hsl.row.on hbb) (by omega) hv (HC.out W hI.below)).mono fun e W' ⟨he, hb⟩ => (show e = Ending.returned (mOwn l).val ∧ RI w bb W' from ⟨he, hI.on hb⟩))
    have hmi := mOwn_in hv
    rw [hn] at HMs
    clear hpf hrt hl1 hput hsl hv he hn
    generalize mOwn l = mo at *
    have HPu := Lib.hid (fun (bb : List (Nat × TypeId × Array Value)) (W : World) (hI : RI w bb W) => (own_Put5 mo hmi W (HC.out W hI.below)).mono fun e W' ⟨Ap, np, cp, he, hs, hb⟩ => (show ∃ Ap np cp, e = Ending.returned (.tuple #[.slice Ap np cp, .int .i64 (mPutE mo)]) ∧ Sl W' Ap np cp 1 (bcells (mPutV mo)) ∧ RI w bb W' from ⟨Ap, np, cp, he, hs, hI.on hb⟩))
    obtain ⟨kind, seq, time, copy, a, b, gap, text, ⟨id, ref, order, account, symbol, k, buy, qty, price, tm⟩⟩ := mo
    have hMV : (Mg.val ⟨kind, seq, time, copy, a, b, gap, text, ⟨id, ref, order, account, symbol, k, buy, qty, price, tm⟩⟩) = .agg #[.int .i64 kind, .int .i64 seq, .int .i64 time, .bool copy, .int .i64 a, .int .i64 b, .bool gap, .string text, .string id, .string ref, .string order, .string account, .string symbol, .int .i64 k, .bool buy, .int .i64 qty, .int .i64 price, .int .i64 tm] := rfl
    rw [hMV] at HPu HMs
    go_wp2_with fail
    refine (HMs.out _ _ HI.out (Below.refl _ _)).mono ?_
    rintro e w2 ⟨rfl, hI2⟩
    replace HI := Lib.hid (hI2.add 25 #[.int .i64 0, .int .i64 0, .int .i64 0, .bool false, .int .i64 0, .int .i64 0, .bool false, .string ⟨#[]⟩, .string ⟨#[]⟩, .string ⟨#[]⟩, .string ⟨#[]⟩, .string ⟨#[]⟩, .string ⟨#[]⟩, .int .i64 0, .bool false, .int .i64 0, .int .i64 0, .int .i64 0])
    clear hI2
    go_upto_region 5 with (first | (refine ri_store rfl 25 (.tmp 6) (.tmp 19) rfl 0 #[.int .i64 kind, .int .i64 seq, .int .i64 time, .bool copy, .int .i64 a, .int .i64 b, .bool gap, .string text, .string id, .string ref, .string order, .string account, .string symbol, .int .i64 k, .bool buy, .int .i64 qty, .int .i64 price, .int .i64 tm] rfl rfl HI.out (Nat.le_refl 18) infoM (arr_one ⟨kind, seq, time, copy, a, b, gap, text, ⟨id, ref, order, account, symbol, k, buy, qty, price, tm⟩⟩) ?_; go_must (intro w3 hI3; clear HI; have HI := Lib.hid hI3; clear hI3; simp [setAll] at HI)))
    generalize w2.heap.size = gm at *
    go_wp2_with (first | (refine wpList_load_row rfl 25 (.tmp 6) rfl gm rfl 25 #[.int .i64 kind, .int .i64 seq, .int .i64 time, .bool copy, .int .i64 a, .int .i64 b, .bool gap, .string text, .string id, .string ref, .string order, .string account, .string symbol, .int .i64 k, .bool buy, .int .i64 qty, .int .i64 price, .int .i64 tm] (0, 0) _ HI.out.bx Tryd.underlying25 rfl infoM ?_))
    refine (HPu.out _ _ HI.out).mono ?_
    rintro e w4 ⟨Ap, np, cp, rfl, hsp, hI4⟩
    replace HI := Lib.hid hI4
    clear hI4
    rcases hb : msgB ⟨kind, seq, time, copy, a, b, gap, text, ⟨id, ref, order, account, symbol, k, buy, qty, price, tm⟩⟩ with _ | _
    · have hpe : mPutE ⟨kind, seq, time, copy, a, b, gap, text, ⟨id, ref, order, account, symbol, k, buy, qty, price, tm⟩⟩ = 1 := by unfold mPutE; rw [hb]; rfl
      have HB1 := Lib.hid (HBd.out (by rw [hb]; rintro ⟨h, _⟩; cases h))
      rw [hpe]
      clear HG HBd hsp hb hpe HMs HPu
      go_wp2_with (first | (refine ri_store rfl 25 (.tmp 2) (.tmp 33) rfl 0 #[.int .i64 0, .int .i64 0, .int .i64 0, .bool false, .int .i64 0, .int .i64 0, .bool false, .string ⟨#[]⟩, .string ⟨#[]⟩, .string ⟨#[]⟩, .string ⟨#[]⟩, .string ⟨#[]⟩, .string ⟨#[]⟩, .int .i64 0, .bool false, .int .i64 0, .int .i64 0, .int .i64 0] rfl rfl HI.out.swap (Nat.le_refl 18) infoM (arr_one Mg.zero) ?_; go_must (intro w5 hI5; clear HI; have HI := Lib.hid hI5; clear hI5; simp [setAll] at HI)))
      refine bodyPost_ret (results_cell_tmp (p := 2) (u := 3) (ty := 25) Tryd.results16 _ _ w.heap.size 25 #[.int .i64 0, .int .i64 0, .int .i64 0, .bool false, .int .i64 0, .int .i64 0, .bool false, .string ⟨#[]⟩, .string ⟨#[]⟩, .string ⟨#[]⟩, .string ⟨#[]⟩, .string ⟨#[]⟩, .string ⟨#[]⟩, .int .i64 0, .bool false, .int .i64 0, .int .i64 0, .int .i64 0] (0, 0) _ rfl HI.out.bx Tryd.underlying25 rfl infoM) rfl ?_
      exact HF.out _ _ _ _ _ rfl (by rw [HB1.out.1]; rfl) HB1.out.2.symm HI.out
    · have hpe : mPutE ⟨kind, seq, time, copy, a, b, gap, text, ⟨id, ref, order, account, symbol, k, buy, qty, price, tm⟩⟩ = 0 ∧ mPutV ⟨kind, seq, time, copy, a, b, gap, text, ⟨id, ref, order, account, symbol, k, buy, qty, price, tm⟩⟩ = putL (msgL ⟨kind, seq, time, copy, a, b, gap, text, ⟨id, ref, order, account, symbol, k, buy, qty, price, tm⟩⟩) := by unfold mPutE mPutV; rw [hb]; exact ⟨rfl, rfl⟩
      rw [hpe.1]
      rw [hpe.2] at hsp
      have HEq := Lib.hid (bytesEqual Ap A0 np cp bl c0 _ bs w4 hsp (HS.out _ HI.out.below))
      clear hpe HMs HPu hsp
      by_cases hq : putL (msgL ⟨kind, seq, time, copy, a, b, gap, text, ⟨id, ref, order, account, symbol, k, buy, qty, price, tm⟩⟩) = bs
      · have HB1 := Lib.hid (HG.out hb hq)
        rw [decide_eq_true hq] at HEq
        clear HG HBd hb hq
        go_wp2_with (first | (go_at_call 32; refine HEq.out.mono ?_; rintro e w' ⟨rfl, rfl⟩) | (refine wpList_load_row rfl 25 (.tmp 6) rfl gm rfl 25 #[.int .i64 kind, .int .i64 seq, .int .i64 time, .bool copy, .int .i64 a, .int .i64 b, .bool gap, .string text, .string id, .string ref, .string order, .string account, .string symbol, .int .i64 k, .bool buy, .int .i64 qty, .int .i64 price, .int .i64 tm] (0, 0) _ HI.out.bx Tryd.underlying25 rfl infoM ?_) | (refine ri_store rfl 25 (.tmp 2) (.tmp 34) rfl 0 #[.int .i64 kind, .int .i64 seq, .int .i64 time, .bool copy, .int .i64 a, .int .i64 b, .bool gap, .string text, .string id, .string ref, .string order, .string account, .string symbol, .int .i64 k, .bool buy, .int .i64 qty, .int .i64 price, .int .i64 tm] rfl rfl HI.out.swap (Nat.le_refl 18) infoM (arr_one ⟨kind, seq, time, copy, a, b, gap, text, ⟨id, ref, order, account, symbol, k, buy, qty, price, tm⟩⟩) ?_; go_must (intro w5 hI5; clear HI; have HI := Lib.hid hI5; clear hI5; simp [setAll] at HI)))
        refine bodyPost_ret (results_cell_tmp (p := 2) (u := 3) (ty := 25) Tryd.results16 _ _ w.heap.size 25 #[.int .i64 kind, .int .i64 seq, .int .i64 time, .bool copy, .int .i64 a, .int .i64 b, .bool gap, .string text, .string id, .string ref, .string order, .string account, .string symbol, .int .i64 k, .bool buy, .int .i64 qty, .int .i64 price, .int .i64 tm] (0, 0) _ rfl HI.out.bx Tryd.underlying25 rfl infoM) rfl ?_
        exact HF.out _ _ _ _ _ rfl (by rw [HB1.out.1]; rfl) HB1.out.2.symm HI.out
      · have HB1 := Lib.hid (HBd.out (fun h => hq h.2))
        rw [decide_eq_false hq] at HEq
        clear HG HBd hb hq
        go_wp2_with (first | (go_at_call 32; refine HEq.out.mono ?_; rintro e w' ⟨rfl, rfl⟩) | (refine ri_store rfl 25 (.tmp 2) (.tmp 33) rfl 0 #[.int .i64 0, .int .i64 0, .int .i64 0, .bool false, .int .i64 0, .int .i64 0, .bool false, .string ⟨#[]⟩, .string ⟨#[]⟩, .string ⟨#[]⟩, .string ⟨#[]⟩, .string ⟨#[]⟩, .string ⟨#[]⟩, .int .i64 0, .bool false, .int .i64 0, .int .i64 0, .int .i64 0] rfl rfl HI.out.swap (Nat.le_refl 18) infoM (arr_one Mg.zero) ?_; go_must (intro w5 hI5; clear HI; have HI := Lib.hid hI5; clear hI5; simp [setAll] at HI)))
        refine bodyPost_ret (results_cell_tmp (p := 2) (u := 3) (ty := 25) Tryd.results16 _ _ w.heap.size 25 #[.int .i64 0, .int .i64 0, .int .i64 0, .bool false, .int .i64 0, .int .i64 0, .bool false, .string ⟨#[]⟩, .string ⟨#[]⟩, .string ⟨#[]⟩, .string ⟨#[]⟩, .string ⟨#[]⟩, .string ⟨#[]⟩, .int .i64 0, .bool false, .int .i64 0, .int .i64 0, .int .i64 0] (0, 0) _ rfl HI.out.bx Tryd.underlying25 rfl infoM) rfl ?_
        exact HF.out _ _ _ _ _ rfl (by rw [HB1.out.1]; rfl) HB1.out.2.symm HI.out
  · have HB1 := Lib.hid (resE_err he)
    have hne : ((resE (parseF bs)) == 0) = false ∧ ((resE (parseF bs)) != 0) = true := ⟨by simpa using he, by simpa using he⟩
    generalize resE (parseF bs) = er at *
    clear hsl
    go_wp2_with (first | (refine ri_store rfl 25 (.tmp 2) (.tmp 16) rfl 0 #[.int .i64 0, .int .i64 0, .int .i64 0, .bool false, .int .i64 0, .int .i64 0, .bool false, .string ⟨#[]⟩, .string ⟨#[]⟩, .string ⟨#[]⟩, .string ⟨#[]⟩, .string ⟨#[]⟩, .string ⟨#[]⟩, .int .i64 0, .bool false, .int .i64 0, .int .i64 0, .int .i64 0] rfl rfl HI.out (Nat.le_refl 18) infoM (arr_one Mg.zero) ?_; go_must (intro w5 hI5; clear HI; have HI := Lib.hid hI5; clear hI5; simp [setAll] at HI)))
    refine bodyPost_ret (results_cell_tmp (p := 2) (u := 3) (ty := 25) Tryd.results16 _ _ w.heap.size 25 #[.int .i64 0, .int .i64 0, .int .i64 0, .bool false, .int .i64 0, .int .i64 0, .bool false, .string ⟨#[]⟩, .string ⟨#[]⟩, .string ⟨#[]⟩, .string ⟨#[]⟩, .string ⟨#[]⟩, .string ⟨#[]⟩, .int .i64 0, .bool false, .int .i64 0, .int .i64 0, .int .i64 0] (0, 0) _ rfl HI.out.bx Tryd.underlying25 rfl infoM) rfl ?_
    exact HF.out _ _ _ _ _ rfl (by rw [HB1.out.1]; rfl) HB1.out.2.symm HI.out
end Go.Proofs.YtcfpchcbiknehaaDoorR
