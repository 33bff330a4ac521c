/-
  Layer 5, msg: the program's own way: a message's fields, and its body: their contracts.
-/
import Derived.Test.YtcfpchcbiknehaaDoorRMsgOwnPut
namespace Go.Proofs.YtcfpchcbiknehaaDoorR
open Go.RowKit

theorem Sl.news {w : World} {ad : Addr} {n c size : Nat} {cs : List Value} (h : Sl w (some ad) n c size cs) (j : Nat) (u : Value) (hu : cs[j]? = some u) : w.cell? (ad.add j) = some u := by
  rcases h.row with h0 | ⟨b, off, e, hc⟩
  · subst h0; simp at hu
  · injection e with e; subst e; rw [addr_at]; exact hc j u hu
theorem let_at1 (W : World) : (Instr.sliceAt 9 (.string ⟨#[65, 48, 49, 50, 52, 53, 56]⟩) (some (.int .i64 0)) (some (.int .i64 1)) none).run Tryd.prog W = .ok (.string ⟨#[65]⟩) W := by kernel_rfl
theorem let_at2 (W : World) : (Instr.sliceAt 9 (.string ⟨#[65, 48, 49, 50, 52, 53, 56]⟩) (some (.int .i64 1)) (some (.int .i64 2)) none).run Tryd.prog W = .ok (.string ⟨#[48]⟩) W := by kernel_rfl
theorem let_at3 (W : World) : (Instr.sliceAt 9 (.string ⟨#[65, 48, 49, 50, 52, 53, 56]⟩) (some (.int .i64 2)) (some (.int .i64 3)) none).run Tryd.prog W = .ok (.string ⟨#[49]⟩) W := by kernel_rfl
theorem let_at4 (W : World) : (Instr.sliceAt 9 (.string ⟨#[65, 48, 49, 50, 52, 53, 56]⟩) (some (.int .i64 3)) (some (.int .i64 4)) none).run Tryd.prog W = .ok (.string ⟨#[50]⟩) W := by kernel_rfl
theorem let_at5 (W : World) : (Instr.sliceAt 9 (.string ⟨#[65, 48, 49, 50, 52, 53, 56]⟩) (some (.int .i64 4)) (some (.int .i64 5)) none).run Tryd.prog W = .ok (.string ⟨#[52]⟩) W := by kernel_rfl
theorem let_at6 (W : World) : (Instr.sliceAt 9 (.string ⟨#[65, 48, 49, 50, 52, 53, 56]⟩) (some (.int .i64 5)) (some (.int .i64 6)) none).run Tryd.prog W = .ok (.string ⟨#[53]⟩) W := by kernel_rfl
theorem let_at7 (W : World) : (Instr.sliceAt 9 (.string ⟨#[65, 48, 49, 50, 52, 53, 56]⟩) (some (.int .i64 6)) (some (.int .i64 7)) none).run Tryd.prog W = .ok (.string ⟨#[56]⟩) W := by kernel_rfl
theorem let_at (kind : Int) (h : 1 ≤ kind ∧ kind ≤ 7) (W : World) : (Instr.sliceAt 9 (.string ⟨#[65, 48, 49, 50, 52, 53, 56]⟩) (some (.int .i64 (kind - 1))) (some (.int .i64 kind)) none).run Tryd.prog W = .ok (.string (kindV kind)) W := by
  rcases (show kind = 1 ∨ kind = 2 ∨ kind = 3 ∨ kind = 4 ∨ kind = 5 ∨ kind = 6 ∨ kind = 7 by omega) with rfl | rfl | rfl | rfl | rfl | rfl | rfl
  · exact let_at1 W
  · exact let_at2 W
  · exact let_at3 W
  · exact let_at4 W
  · exact let_at5 W
  · exact let_at6 W
  · exact let_at7 W
set_option maxRecDepth 100000 in
set_option maxHeartbeats 20000000 in
theorem own_fields5 (m : Mg) (hm : m.In) (hr : MsgR m) (w : World) (hctx : Ctx w) : Calls Tryd.prog 20 #[m.val] w (ListPost (msgL m) w) := by
  obtain ⟨i0, hi, iz0, iz1, iz2⟩ := info_parts infoF5
  have hk := hr.kind
  have n1 := hm.seq
  have n2 := hm.time
  have n4 := hm.a
  have n5 := hm.b
  have hx := hm.ex
  obtain ⟨kind, seq, time, copy, a, b, gap, text, ex⟩ := m
  have HXF := Lib.hid (fun (W : World) (hc : Ctx W) => own_execFields5 ex hx W hc)
  obtain ⟨id, ref, order, account, symbol, k, buy, qty, price, tm⟩ := ex
  have HP := Lib.hid (fun (e : Ending) (W : World) (s : Value) (bs : List (Nat × TypeId × Array Value)) (he : e = .returned s) (h : PutI w bs (msgL ⟨kind, seq, time, copy, a, b, gap, text, ⟨id, ref, order, account, symbol, k, buy, qty, price, tm⟩⟩) s W) => (show ListPost (msgL ⟨kind, seq, time, copy, a, b, gap, text, ⟨id, ref, order, account, symbol, k, buy, qty, price, tm⟩⟩) w e W from he ▸ h.post (by simp [msgL])))
  unfold Mg.val Exc.val at *
  dsimp only at *
  clear hx hm hr
  have N1 := Lib.hid (fun (W : World) {bs : List (Nat × TypeId × Array Value)} {L : List Fld} {s : Value} (h : PutI w bs L s W) => number_keeps 34 seq n1 W hctx h)
  have N2 := Lib.hid (fun (W : World) {bs : List (Nat × TypeId × Array Value)} {L : List Fld} {s : Value} (h : PutI w bs L s W) => number_keeps 52 time n2 W hctx h)
  have N4 := Lib.hid (fun (t : Int) (W : World) {bs : List (Nat × TypeId × Array Value)} {L : List Fld} {s : Value} (h : PutI w bs L s W) => number_keeps t a n4 W hctx h)
  have N5 := Lib.hid (fun (t : Int) (W : World) {bs : List (Nat × TypeId × Array Value)} {L : List Fld} {s : Value} (h : PutI w bs L s W) => number_keeps t b n5 W hctx h)
  have N6 := Lib.hid (fun (t n : Int) (hn : -9223372036854775808 ≤ n ∧ n ≤ 9223372036854775807) (W : World) {bs : List (Nat × TypeId × Array Value)} {L : List Fld} {s : Value} (h : PutI w bs L s W) => number_keeps t n hn W hctx h)
  clear n1 n2
  have H0 := Lib.hid (PutI.start (w := w) (t := 25) (cs := #[.int .i64 kind, .int .i64 seq, .int .i64 time, .bool copy, .int .i64 a, .int .i64 b, .bool gap, .string text, .string id, .string ref, .string order, .string account, .string symbol, .int .i64 k, .bool buy, .int .i64 qty, .int .i64 price, .int .i64 tm]) (by decide))
  go_enter Tryd.func20, Tryd.ntmps20
  go_upto_region 1 with fail
  go_cut [3] (fun s3 wx => PutI w [(w.heap.size, 25, #[.int .i64 kind, .int .i64 seq, .int .i64 time, .bool copy, .int .i64 a, .int .i64 b, .bool gap, .string text, .string id, .string ref, .string order, .string account, .string symbol, .int .i64 k, .bool buy, .int .i64 qty, .int .i64 price, .int .i64 tm])] [⟨35, kindV kind⟩, ⟨34, nmV seq⟩, ⟨52, nmV time⟩] s3 wx)
  case first =>
    have HC := Lib.hid (show ∀ W, PutI w [(w.heap.size, 25, #[.int .i64 kind, .int .i64 seq, .int .i64 time, .bool copy, .int .i64 a, .int .i64 b, .bool gap, .string text, .string id, .string ref, .string order, .string account, .string symbol, .int .i64 k, .bool buy, .int .i64 qty, .int .i64 price, .int .i64 tm])] [] (.slice none 0 0) W → W.cell? ⟨w.heap.size, 0, none⟩ = some (.int .i64 kind) ∧ W.cell? ⟨w.heap.size, 1, none⟩ = some (.int .i64 seq) ∧ W.cell? ⟨w.heap.size, 2, none⟩ = some (.int .i64 time) ∧ PutI w [(w.heap.size, 25, #[.int .i64 kind, .int .i64 seq, .int .i64 time, .bool copy, .int .i64 a, .int .i64 b, .bool gap, .string text, .string id, .string ref, .string order, .string account, .string symbol, .int .i64 k, .bool buy, .int .i64 qty, .int .i64 price, .int .i64 tm])] [] (.slice none 0 0) W from fun W h => ⟨h.bx.cell 0, h.bx.cell 1, h.bx.cell 2, h⟩)
    have HO := Lib.hid (fun (t : Int) (v : ByteArray) (W : World) (h : PutI w [(w.heap.size, 25, #[.int .i64 kind, .int .i64 seq, .int .i64 time, .bool copy, .int .i64 a, .int .i64 b, .bool gap, .string text, .string id, .string ref, .string order, .string account, .string symbol, .int .i64 k, .bool buy, .int .i64 qty, .int .i64 price, .int .i64 tm])] [] (.slice none 0 0) W) => one_keeps t v W h)
    have M1 := Lib.hid (fun (W : World) (h : PutI w [(w.heap.size, 25, #[.int .i64 kind, .int .i64 seq, .int .i64 time, .bool copy, .int .i64 a, .int .i64 b, .bool gap, .string text, .string id, .string ref, .string order, .string account, .string symbol, .int .i64 k, .bool buy, .int .i64 qty, .int .i64 price, .int .i64 tm])] [] (.slice none 0 0) W) => N1.out W h)
    have M2 := Lib.hid (fun (W : World) (h : PutI w [(w.heap.size, 25, #[.int .i64 kind, .int .i64 seq, .int .i64 time, .bool copy, .int .i64 a, .int .i64 b, .bool gap, .string text, .string id, .string ref, .string order, .string account, .string symbol, .int .i64 k, .bool buy, .int .i64 qty, .int .i64 price, .int .i64 tm])] [] (.slice none 0 0) W) => N2.out W h)
    have HL := Lib.hid (fun (W : World) (h : PutI w [(w.heap.size, 25, #[.int .i64 kind, .int .i64 seq, .int .i64 time, .bool copy, .int .i64 a, .int .i64 b, .bool gap, .string text, .string id, .string ref, .string order, .string account, .string symbol, .int .i64 k, .bool buy, .int .i64 qty, .int .i64 price, .int .i64 tm])] [] (.slice none 0 0) W) => put_lit3 ⟨35, kindV kind⟩ ⟨34, nmV seq⟩ ⟨52, nmV time⟩ h)
    have I1 := H0.out.drew
    have hix := let_at kind hk
    have hwp : IntKind.i64.wrap (kind - 1) = kind - 1 := by rcases (show kind = 1 ∨ kind = 2 ∨ kind = 3 ∨ kind = 4 ∨ kind = 5 ∨ kind = 6 ∨ kind = 7 by omega) with rfl | rfl | rfl | rfl | rfl | rfl | rfl <;> decide
    clear N1 N2 N4 N5 N6 HXF HP H0 n4 n5
    go_region_held3 (fun W => W.cell? ⟨w.heap.size, 0, none⟩ = some (.int .i64 kind) ∧ W.cell? ⟨w.heap.size, 1, none⟩ = some (.int .i64 seq) ∧ W.cell? ⟨w.heap.size, 2, none⟩ = some (.int .i64 time) ∧ PutI w [(w.heap.size, 25, #[.int .i64 kind, .int .i64 seq, .int .i64 time, .bool copy, .int .i64 a, .int .i64 b, .bool gap, .string text, .string id, .string ref, .string order, .string account, .string symbol, .int .i64 k, .bool buy, .int .i64 qty, .int .i64 price, .int .i64 tm])] [] (.slice none 0 0) W) (first | exact HC.out _ (by assumption) | exact HC.out _ (PutI.alloc (by assumption) _)) (first | (go_at_call 38; refine (HO.out _ _ _ (by assumption)).mono ?_; rintro e w' ⟨rfl, hC⟩) | (go_at_call 39; first | (refine (M1.out _ (by assumption)).mono ?_; rintro e w' ⟨rfl, hC⟩) | (refine (M2.out _ (by assumption)).mono ?_; rintro e w' ⟨rfl, hC⟩)))
    all_goals
      go_wp2
      go_meet
      case rel => exact HL.out _ (by assumption)
  case rest =>
    clear N1 N2 H0
    obtain ⟨L1, hL1⟩ : ∃ L1, L1 = [⟨35, kindV kind⟩, ⟨34, nmV seq⟩, (⟨52, nmV time⟩ : Fld)] := ⟨_, rfl⟩
    rw [← hL1] at hcut
    have hl1 : L1.length ≤ 3 := by rw [hL1]; simp
    have HL1 := Lib.hid hL1
    clear hL1
    have q3 : wc.cell? ⟨w.heap.size, 3, none⟩ = some (.bool copy) := hcut.bx.cell 3
    have HI := Lib.hid hcut
    have hzc := hcut.below.size
    clear hcut
    go_upto_if 19 with fail
    go_cut [0, 3, 18, 19] (fun _ s3 _ _ wx => PutI w [(w.heap.size, 25, #[.int .i64 kind, .int .i64 seq, .int .i64 time, .bool copy, .int .i64 a, .int .i64 b, .bool gap, .string text, .string id, .string ref, .string order, .string account, .string symbol, .int .i64 k, .bool buy, .int .i64 qty, .int .i64 price, .int .i64 tm])] (L1 ++ optY 43 copy) s3 wx)
    case first =>
      clear N4 N5 N6 HXF HP n4 n5
      generalize hv : copy = cb at q3 ⊢
      have Hv := Lib.hid hv
      clear hv
      rcases cb with _ | _
      · go_wp2
        go_meet
        case rel => exact PutI.cast (K := L1 ++ optY 43 copy) HI.out (by rw [Hv.out]; simp [optY])
      · go_wp2_with fail
        refine (one_keeps _ _ _ HI.out).mono ?_
        rintro e w2 ⟨rfl, hI2⟩
        go_wp2_with (first | (at_builtin; refine list_fields rfl (.tmp 20) (.tmp 22) rfl i0 hi iz0 iz1 iz2 _ L1 [⟨43, yV⟩] rfl (PutI.alloc hI2 _) rfl (lit_news _ _ (by first | rfl | simp) rfl) rfl ⟨?c3, by decide⟩ ?_))
        case c3 => simp; omega
        intro v3 w3 h3
        go_wp2
        go_meet
        case rel => exact PutI.cast (K := L1 ++ optY 43 copy) h3 (by rw [Hv.out]; simp [optY])
    case rest =>
      clear HI q3 hzc
      obtain ⟨L2, hL2⟩ : ∃ L2, L2 = L1 ++ optY 43 copy := ⟨_, rfl⟩
      rw [← hL2] at hcut
      have hl2 : L2.length ≤ 4 := by rw [hL2, List.length_append]; have := optY_len 43 copy; omega
      have HL2 := Lib.hid hL2
      clear hL2 hl1
      have q0 : wc.cell? ⟨w.heap.size, 0, none⟩ = some (.int .i64 kind) := hcut.bx.cell 0
      have hzc := hcut.below.size
      have HI := Lib.hid hcut
      clear hcut
      rcases (show kind = 1 ∨ kind = 2 ∨ kind = 3 ∨ kind = 4 ∨ kind = 5 ∨ kind = 6 ∨ kind = 7 by omega) with rfl | rfl | rfl | rfl | rfl | rfl | rfl
      · skip
        have q4 : wc.cell? ⟨w.heap.size, 4, none⟩ = some (.int .i64 a) := HI.out.bx.cell 4
        go_wp2_with fail
        refine (N4.out _ _ HI.out).mono ?_
        rintro e w2 ⟨rfl, hI2⟩
        go_wp2_with (first | (at_builtin; refine list_fields rfl (.tmp 28) (.tmp 32) rfl i0 hi iz0 iz1 iz2 _ L2 [⟨108, nmV a⟩] rfl (PutI.alloc hI2 _) rfl (lit_news _ _ (by first | rfl | simp) rfl) rfl ⟨?c3, by decide⟩ ?_))
        case c3 => simp; omega
        intro v3 w3 h3
        go_wp2
        go_ret
        exact HP.out _ _ _ _ rfl (PutI.cast h3 (by rw [HL2.out, HL1.out]; simp [msgL, restL, optY]))
      · skip
        have q7 : wc.cell? ⟨w.heap.size, 7, none⟩ = some (.string text) := HI.out.bx.cell 7
        rcases hv : text.toList.isEmpty with _ | _
        rotate_left
        · have ht := Lib.hid (show text = eS by rw [isE, decide_eq_true_iff] at hv; exact hv)
          go_wp2
          go_ret
          exact HP.out _ _ _ _ rfl (PutI.cast HI.out (by rw [HL2.out, HL1.out]; simp [msgL, restL, opt, ht.out]))
        · have ht := Lib.hid (show ¬ text = eS by rw [isE, decide_eq_false_iff_not] at hv; exact hv)
          go_wp2_with fail
          refine (one_keeps _ _ _ HI.out).mono ?_
          rintro e w2 ⟨rfl, hI2⟩
          go_wp2_with (first | (at_builtin; refine list_fields rfl (.tmp 40) (.tmp 44) rfl i0 hi iz0 iz1 iz2 _ L2 [⟨112, text⟩] rfl (PutI.alloc hI2 _) rfl (lit_news _ _ (by first | rfl | simp) rfl) rfl ⟨?c3, by decide⟩ ?_))
          case c3 => simp; omega
          intro v3 w3 h3
          go_wp2
          go_ret
          exact HP.out _ _ _ _ rfl (PutI.cast h3 (by rw [HL2.out, HL1.out]; simp [msgL, restL, opt, ht.out]))
      · skip
        have q7 : wc.cell? ⟨w.heap.size, 7, none⟩ = some (.string text) := HI.out.bx.cell 7
        rcases hv : text.toList.isEmpty with _ | _
        rotate_left
        · have ht := Lib.hid (show text = eS by rw [isE, decide_eq_true_iff] at hv; exact hv)
          go_wp2
          go_ret
          exact HP.out _ _ _ _ rfl (PutI.cast HI.out (by rw [HL2.out, HL1.out]; simp [msgL, restL, opt, ht.out]))
        · have ht := Lib.hid (show ¬ text = eS by rw [isE, decide_eq_false_iff_not] at hv; exact hv)
          go_wp2_with fail
          refine (one_keeps _ _ _ HI.out).mono ?_
          rintro e w2 ⟨rfl, hI2⟩
          go_wp2_with (first | (at_builtin; refine list_fields rfl (.tmp 40) (.tmp 44) rfl i0 hi iz0 iz1 iz2 _ L2 [⟨112, text⟩] rfl (PutI.alloc hI2 _) rfl (lit_news _ _ (by first | rfl | simp) rfl) rfl ⟨?c3, by decide⟩ ?_))
          case c3 => simp; omega
          intro v3 w3 h3
          go_wp2
          go_ret
          exact HP.out _ _ _ _ rfl (PutI.cast h3 (by rw [HL2.out, HL1.out]; simp [msgL, restL, opt, ht.out]))
      · skip
        have HC := Lib.hid (fun (W : World) (L : List Fld) (s : Value) (h : PutI w [(w.heap.size, 25, #[.int .i64 4, .int .i64 seq, .int .i64 time, .bool copy, .int .i64 a, .int .i64 b, .bool gap, .string text, .string id, .string ref, .string order, .string account, .string symbol, .int .i64 k, .bool buy, .int .i64 qty, .int .i64 price, .int .i64 tm])] L s W) => (show W.cell? ⟨w.heap.size, 4, none⟩ = some (.int .i64 a) ∧ W.cell? ⟨w.heap.size, 5, none⟩ = some (.int .i64 b) from ⟨h.bx.cell 4, h.bx.cell 5⟩))
        go_upto_region 12 with fail
        have hI := HI.out.drew
        go_wp2_with fail
        go_region_held3 (fun W => W.cell? ⟨w.heap.size, 4, none⟩ = some (.int .i64 a) ∧ W.cell? ⟨w.heap.size, 5, none⟩ = some (.int .i64 b)) (first | exact HC.out _ _ _ (by assumption) | exact HC.out _ _ _ (PutI.alloc (by assumption) _)) (first | (go_at_call 39; refine (N6.out _ _ (by assumption) _ (by assumption)).mono ?_; rintro e w' ⟨rfl, hC⟩) | (refine step_fields rfl (.tmp 48) (.tmp 55) rfl i0 hi iz0 iz1 iz2 _ L2 [⟨7, nmV a⟩, ⟨16, nmV b⟩] rfl (PutI.alloc (by assumption) _) rfl (lit_news _ _ (by first | rfl | simp) rfl) rfl (by omega) ?_; intro v3 w3 h3))
        all_goals
          go_wp2
          go_ret
          exact HP.out _ _ _ _ rfl (PutI.cast h3 (by rw [HL2.out, HL1.out]; simp [msgL, restL, optY]))
      · skip
        have q4 : wc.cell? ⟨w.heap.size, 4, none⟩ = some (.int .i64 a) := HI.out.bx.cell 4
        have q6 : wc.cell? ⟨w.heap.size, 6, none⟩ = some (.bool gap) := HI.out.bx.cell 6
        rcases gap with _ | _
        · go_wp2_with fail
          refine (N4.out _ _ HI.out).mono ?_
          rintro e w2 ⟨rfl, hI2⟩
          go_wp2_with (first | (at_builtin; refine list_fields rfl (.tmp 65) (.tmp 69) rfl i0 hi iz0 iz1 iz2 _ L2 [⟨36, nmV a⟩] rfl (PutI.alloc hI2 _) rfl (lit_news _ _ (by first | rfl | simp) rfl) rfl ⟨?c3, by decide⟩ ?_))
          case c3 => simp; omega
          intro v3 w3 h3
          go_wp2
          go_ret
          exact HP.out _ _ _ _ rfl (PutI.cast h3 (by rw [HL2.out, HL1.out]; simp [msgL, restL, optY]))

        · go_wp2_with fail
          refine (one_keeps _ _ _ HI.out).mono ?_
          rintro e w2 ⟨rfl, hI2⟩
          go_wp2_with (first | (at_builtin; refine list_fields rfl (.tmp 61) (.tmp 63) rfl i0 hi iz0 iz1 iz2 _ L2 [⟨123, yV⟩] rfl (PutI.alloc hI2 _) rfl (lit_news _ _ (by first | rfl | simp) rfl) rfl ⟨?c3, by decide⟩ ?_))
          case c3 => simp; omega
          intro v3 w3 h3
          have r4 : w3.cell? ⟨w.heap.size, 4, none⟩ = some (.int .i64 a) := h3.bx.cell 4
          have hzd := h3.below.size
          have hl3 : (L2 ++ [(⟨123, yV⟩ : Fld)]).length ≤ 5 := by simp; omega
          generalize hL3 : L2 ++ [(⟨123, yV⟩ : Fld)] = L3 at h3 hl3
          have HL3 := Lib.hid hL3
          clear hL3
          have HI3 := Lib.hid h3
          clear h3
          go_wp2_with fail
          refine (N4.out _ _ HI3.out).mono ?_
          rintro e w4 ⟨rfl, hI4⟩
          go_wp2_with (first | (at_builtin; refine list_fields rfl (.tmp 65) (.tmp 69) rfl i0 hi iz0 iz1 iz2 _ L3 [⟨36, nmV a⟩] rfl (PutI.alloc hI4 _) rfl (lit_news _ _ (by first | rfl | simp) rfl) rfl ⟨?c3, by decide⟩ ?_))
          case c3 => simp; omega
          intro v5 w5 h5
          go_wp2
          go_ret
          exact HP.out _ _ _ _ rfl (PutI.cast h5 (by rw [← HL3.out, HL2.out, HL1.out]; simp [msgL, restL, optY]))
      · skip
        go_wp2
        go_ret
        exact HP.out _ _ _ _ rfl (PutI.cast HI.out (by rw [HL2.out, HL1.out]; simp [msgL, restL, optY]))
      · skip
        have hrg : wc.rangeAt w.heap.size 8 [.string id, .string ref, .string order, .string account, .string symbol, .int .i64 k, .bool buy, .int .i64 qty, .int .i64 price, .int .i64 tm] := HI.out.bx.range 8
        go_wp2_with (first | (refine wpList_load_mid rfl 23 _ rfl w.heap.size 8 rfl _ _ hrg Tryd.underlying23 rfl infoX ?_))
        refine (HXF.out _ (hctx.on HI.out.below)).mono ?_
        rintro e w2 ⟨ad, c2, rfl, hs2, hb2⟩
        have hI2 := HI.out.on hb2
        have hnw := hs2.news
        have hlx : (exL ⟨id, ref, order, account, symbol, k, buy, qty, price, tm⟩).length ≤ 10 ∧ 0 < (exL ⟨id, ref, order, account, symbol, k, buy, qty, price, tm⟩).length := by have := opt_len 19 ref; simp [exL]; omega
        generalize hnx : (exL ⟨id, ref, order, account, symbol, k, buy, qty, price, tm⟩).length = nx at *
        go_wp2_with (first | (at_builtin; refine list_fields rfl (.tmp 73) (.tmp 76) rfl i0 hi iz0 iz1 iz2 _ L2 (exL ⟨id, ref, order, account, symbol, k, buy, qty, price, tm⟩) rfl hI2 rfl hnw hnx ⟨?c3, hlx.2⟩ ?_))
        case c3 => omega
        intro v3 w3 h3
        go_wp2
        go_ret
        exact HP.out _ _ _ _ rfl (PutI.cast h3 (by rw [HL2.out, HL1.out]; simp [msgL, restL, optY]))
set_option maxRecDepth 100000 in
set_option maxHeartbeats 4000000 in
theorem own_Put5 (m : Mg) (hm : m.In) (w : World) (hctx : FCtx w) : Calls Tryd.prog 8 #[m.val] w (MPutPost m w) := by
  have HR := Lib.hid (own_Right5 m hm)
  rcases hb : msgB m with _ | _
  · have HF := Lib.hid (fun (e : Ending) (w' : World) (he : e = Ending.returned (.tuple #[.slice none 0 0, .int .i64 1])) (hbe : Below w.heap.size w w') => MPutPost.bad hb he hbe)
    rw [hb] at HR
    obtain ⟨kind, seq, time, copy, a, b, gap, text, ⟨id, ref, order, account, symbol, k, buy, qty, price, tm⟩⟩ := m
    unfold Mg.val at *
    dsimp only at *
    clear hb hm
    have Hbx := Lib.hid (Box.new w #[.int .i64 kind, .int .i64 seq, .int .i64 time, .bool copy, .int .i64 a, .int .i64 b, .bool gap, .string text, .string id, .string ref, .string order, .string account, .string symbol, .int .i64 k, .bool buy, .int .i64 qty, .int .i64 price, .int .i64 tm] 25)
    go_enter Tryd.func8, Tryd.ntmps8
    go_wp2_with (first | (refine wpList_load_row rfl 25 _ rfl w.heap.size rfl 25 _ (0, 0) _ Hbx.out Tryd.underlying25 rfl infoM ?_))
    refine (HR.out _).mono ?_
    rintro e w1 ⟨rfl, hb1⟩
    (obtain ⟨hc1, hf1⟩ := bcell hb1; have hz1 := hb1.size; (repeat (first | rw [World.size_alloc] at hz1 | rw [World.size_setCell] at hz1 | rw [World.size_drew] at hz1)); have hB1 : Below w.heap.size w w1 := Below.trans (by go_grown) (hb1.mono (by go_size)))
    go_wp2
    go_ret2
    exact HF.out _ _ rfl hB1
  · have hM := msgB_iff.1 hb
    have hfl := msgL_fld hM
    have hln := msgL_len m
    have hpe := putE_ok (l := msgL m) (by omega) (msgL_right hM)
    have HG := Lib.hid (fun (e : Ending) (w' : World) (A : Option Addr) (n c : Nat) (he : e = Ending.returned (.tuple #[.slice A n c, .int .i64 0])) (hs : Sl w' A n c 1 (bcells (putL (msgL m)))) (hbe : Below w.heap.size w w') => MPutPost.good hb he hs hbe)
    have HFl := Lib.hid (fun (W : World) (hc : Ctx W) => own_fields5 m hm hM W hc)
    have HP := Lib.hid (fun (A : Option Addr) (c : Nat) (W : World) (h : Row W A (fcells (msgL m))) (hc : FCtx W) => field_Put A c (msgL m) W h (fun f hf => by have := (hfl f hf).2.1; omega) (by omega) hc)
    rw [show PutPost (msgL m) = fun wc e w' => ∃ A n c, e = .returned (.tuple #[.slice A n c, .int .i64 0]) ∧ Sl w' A n c 1 (bcells (putL (msgL m))) ∧ Below wc.heap.size wc w' ∧ Fm A from by funext wc e w'; unfold PutPost; rw [hpe.1, hpe.2]] at HP
    rw [hb] at HR
    clear hfl hpe hM hln
    unfold ListPost at HFl
    generalize (msgL m).length = nl at *
    generalize msgL m = l at *
    clear hb hm
    obtain ⟨kind, seq, time, copy, a, b, gap, text, ⟨id, ref, order, account, symbol, k, buy, qty, price, tm⟩⟩ := m
    unfold Mg.val at *
    dsimp only at *
    have Hbx := Lib.hid (Box.new w #[.int .i64 kind, .int .i64 seq, .int .i64 time, .bool copy, .int .i64 a, .int .i64 b, .bool gap, .string text, .string id, .string ref, .string order, .string account, .string symbol, .int .i64 k, .bool buy, .int .i64 qty, .int .i64 price, .int .i64 tm] 25)
    go_enter Tryd.func8, Tryd.ntmps8
    go_wp2_with (first | (refine wpList_load_row rfl 25 _ rfl w.heap.size rfl 25 _ (0, 0) _ Hbx.out Tryd.underlying25 rfl infoM ?_))
    refine (HR.out _).mono ?_
    rintro e w1 ⟨rfl, hb1⟩
    have hBx := Lib.hid (Hbx.out.on hb1)
    have hB1 : Below w.heap.size w w1 := ((Below.refl w.heap.size w).alloc (Nat.le_refl _) _).trans (hb1.mono (by simp))
    have hz1 := hB1.size
    go_wp2_with (first | (refine wpList_load_row rfl 25 _ rfl w.heap.size rfl 25 _ (0, 0) _ hBx.out Tryd.underlying25 rfl infoM ?_))
    refine (HFl.out _ (hctx.on hB1).1).mono ?_
    rintro e w2 ⟨ad, c2, rfl, hs2, hb2⟩
    have hB2 : Below w.heap.size w w2 := hB1.trans (hb2.mono hz1)
    go_wp2_with fail
    refine (HP.out _ _ _ hs2.row (hctx.on hB2)).mono ?_
    rintro e w3 ⟨A3, n3, c3, rfl, hs3, hb3, _⟩
    go_wp2
    go_ret2
    exact HG.out _ _ _ _ _ rfl hs3 (hB2.trans (hb3.mono hB2.size))
end Go.Proofs.YtcfpchcbiknehaaDoorR
