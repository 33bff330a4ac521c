/-
  Layer 5, msg: the program's own way: a message's fields, and its body: their contracts.
-/
import Derived.Test.YtcfpchcbiknehaaDoorRMsgOwnRight
import Derived.Test.YtcfpchcbiknehaaDoorRMsgRefPut
import Derived.Test.YtcfpchcbiknehaaDoorRFieldPut
namespace Go.Proofs.YtcfpchcbiknehaaDoorR
open Go.RowKit

theorem own_one5 (t : Int) (v : ByteArray) (w : World) : Calls Tryd.prog 38 #[.int .i64 t, .string v] w fun e w' => e = .returned (.agg #[.int .i64 t, .string v]) ∧ Below w.heap.size w w' := by
  go_enter Tryd.func38, Tryd.ntmps38
  go_wp2
  refine bodyPost_ret (v := .agg #[.int .i64 t, .string v]) (by simp [results, Tryd.results38, go_sem]) rfl ?_
  exact ⟨rfl, by go_grown⟩
theorem own_number5 (t n : Int) (hn : -9223372036854775808 ≤ n ∧ n ≤ 9223372036854775807) (w : World) (hctx : Ctx w) : Calls Tryd.prog 39 #[.int .i64 t, .int .i64 n] w fun e w' => e = .returned (.agg #[.int .i64 t, .string (nmV n)]) ∧ Below w.heap.size w w' := by
  have HS := Lib.hid (fun w h => num_Show n hn.1 hn.2 w h)
  have e1 : (⟨(showL n).toArray⟩ : ByteArray) = nmV n := rfl
  rw [e1] at HS
  generalize nmV n = v at *
  go_enter Tryd.func39, Tryd.ntmps39
  go_wp2_with fail
  refine (HS.out _ (hctx.on ((Below.refl _ _).alloc (Nat.le_refl _) _))).mono ?_
  rintro e w1 ⟨rfl, hb1⟩
  (obtain ⟨hc1, hf1⟩ := bcell hb1; have hz1 := hb1.size; (repeat (first | rw [World.size_alloc] at hz1 | rw [World.size_setCell] at hz1 | rw [World.size_drew] at hz1)); have hB1 : Below w.heap.size w w1 := Below.trans (by go_grown) (hb1.mono (by go_size)))
  go_wp2_with fail
  refine (own_one5 t v _).mono ?_
  rintro e w2 ⟨rfl, hb2⟩
  (obtain ⟨hc2, hf2⟩ := bcell hb2; have hz2 := hb2.size; (repeat (first | rw [World.size_alloc] at hz2 | rw [World.size_setCell] at hz2 | rw [World.size_drew] at hz2)); have hB2 : Below w.heap.size w w2 := Below.trans (by go_grown) (hb2.mono (by go_size)))
  have hlt1 : w.heap.size < w1.heap.size := by omega
  have hfr2 := hf2
  go_wp2
  refine bodyPost_ret (v := .agg #[.int .i64 t, .string v]) (by simp [results, Tryd.results39, go_sem, hc2, hc1, hlt1]) rfl ?_
  exact ⟨rfl, by go_grown⟩
theorem one_keeps (t : Int) (v : ByteArray) (W : World) {w : World} {bs : List (Nat × TypeId × Array Value)} {L : List Fld} {s : Value} (h : PutI w bs L s W) : Calls Tryd.prog 38 #[.int .i64 t, .string v] W fun e W' => e = .returned (.agg #[.int .i64 t, .string v]) ∧ PutI w bs L s W' :=
  (own_one5 t v W).mono fun _ _ ⟨he, hb⟩ => ⟨he, h.on hb⟩
theorem number_keeps (t n : Int) (hn : -9223372036854775808 ≤ n ∧ n ≤ 9223372036854775807) (W : World) {w : World} (hctx : Ctx w) {bs : List (Nat × TypeId × Array Value)} {L : List Fld} {s : Value} (h : PutI w bs L s W) : Calls Tryd.prog 39 #[.int .i64 t, .int .i64 n] W fun e W' => e = .returned (.agg #[.int .i64 t, .string (nmV n)]) ∧ PutI w bs L s W' :=
  (own_number5 t n hn W (hctx.on h.below)).mono fun _ _ ⟨he, hb⟩ => ⟨he, h.on hb⟩
theorem put_lit1 (a : Fld) {w : World} {bs : List (Nat × TypeId × Array Value)} {L : List Fld} {s : Value} {W : World} (h : PutI w bs L s W) : PutI w bs [a] (.slice (some ⟨W.heap.size, 0, none⟩) 1 1) (W.alloc (.cells #[.int .i64 a.tag, .string a.val] 42)) :=
  ⟨World.ownsRow_lit (e := 42) (size := 2) W #[.int .i64 a.tag, .string a.val] 1 h.below.size (by decide) rfl, (h.alloc _).box, h.types, h.below.alloc h.below.size _⟩
theorem PutI.start {w : World} {t : TypeId} {cs : Array Value} (ht : t ≠ 42) : PutI w [(w.heap.size, t, cs)] [] (.slice none 0 0) (w.alloc (.cells cs t)) :=
  ⟨World.ownsRow_nil _ _ _ _, (by intro b hm; rw [List.mem_singleton.1 hm]; exact Box.new _ _ _), (by intro b hm; rw [List.mem_singleton.1 hm]; exact ht), (Below.refl _ _).alloc (Nat.le_refl _) _⟩
/-- A list of fields that a call hands back. -/
def ListPost (l : List Fld) (w : World) (e : Ending) (w' : World) : Prop := ∃ ad c, e = .returned (.slice (some ad) l.length c) ∧ Sl w' (some ad) l.length c 2 (fcells l) ∧ Below w.heap.size w w'
theorem PutI.post {w : World} {bs : List (Nat × TypeId × Array Value)} {L : List Fld} {s : Value} {W : World} (h : PutI w bs L s W) (h0 : 0 < L.length) : ListPost L w (.returned s) W := by
  obtain ⟨A, c, rfl, hsl, _⟩ := Sl.of_own h.own
  rcases A with _ | ad
  · have := (hsl.nil rfl).1; omega
  · exact ⟨ad, c, rfl, hsl, h.below⟩
set_option maxRecDepth 100000 in
set_option maxHeartbeats 4000000 in
theorem own_execFields5 (x : Exc) (hx : x.In) (w : World) (hctx : Ctx w) : Calls Tryd.prog 40 #[x.val] w (ListPost (exL x) w) := by
  obtain ⟨i0, hi, iz0, iz1, iz2⟩ := info_parts infoF5
  obtain ⟨id, ref, order, account, symbol, k, buy, qty, price, tm⟩ := x
  have n5 := hx.kind
  have n7 := hx.qty
  have n8 := hx.price
  have n9 := hx.time
  have HP := Lib.hid (fun (e : Ending) (W : World) (s : Value) (he : e = .returned s) (h : PutI w [(w.heap.size, 23, #[.string id, .string ref, .string order, .string account, .string symbol, .int .i64 k, .bool buy, .int .i64 qty, .int .i64 price, .int .i64 tm])] (exL ⟨id, ref, order, account, symbol, k, buy, qty, price, tm⟩) s W) => (show ListPost (exL ⟨id, ref, order, account, symbol, k, buy, qty, price, tm⟩) w e W from he ▸ h.post (by simp [exL])))
  unfold Exc.val at *
  dsimp only at *
  clear hx
  have N5 := Lib.hid (fun (W : World) {bs : List (Nat × TypeId × Array Value)} {L : List Fld} {s : Value} (h : PutI w bs L s W) => number_keeps 150 k n5 W hctx h)
  have N7 := Lib.hid (fun (W : World) {bs : List (Nat × TypeId × Array Value)} {L : List Fld} {s : Value} (h : PutI w bs L s W) => number_keeps 32 qty n7 W hctx h)
  have N8 := Lib.hid (fun (W : World) {bs : List (Nat × TypeId × Array Value)} {L : List Fld} {s : Value} (h : PutI w bs L s W) => number_keeps 31 price n8 W hctx h)
  have N9 := Lib.hid (fun (W : World) {bs : List (Nat × TypeId × Array Value)} {L : List Fld} {s : Value} (h : PutI w bs L s W) => number_keeps 60 tm n9 W hctx h)
  clear n5 n7 n8 n9
  have H0 := Lib.hid (PutI.start (w := w) (t := 23) (cs := #[.string id, .string ref, .string order, .string account, .string symbol, .int .i64 k, .bool buy, .int .i64 qty, .int .i64 price, .int .i64 tm]) (by decide))
  go_enter Tryd.func40, Tryd.ntmps40
  go_wp2_with fail
  refine (one_keeps _ _ _ H0.out).mono ?_
  rintro e w1 ⟨rfl, hI1⟩
  have r1 : (w1.alloc (.cells #[.int .i64 17, .string id] 42)).cell? ⟨w.heap.size, 1, none⟩ = some (.string ref) := (put_lit1 ⟨17, id⟩ hI1).bx.cell 1
  have HI := Lib.hid (put_lit1 ⟨17, id⟩ hI1)
  have hzc := (put_lit1 ⟨17, id⟩ hI1).below.size
  clear hI1 H0
  go_upto_if 11 with fail
  generalize hw8 : w1.alloc (.cells #[.int .i64 17, .string id] 42) = w8 at *
  clear hw8
  go_cut [3, 9, 10, 11] (fun s3 _ _ _ wx => PutI w [(w.heap.size, 23, #[.string id, .string ref, .string order, .string account, .string symbol, .int .i64 k, .bool buy, .int .i64 qty, .int .i64 price, .int .i64 tm])] ([⟨17, id⟩] ++ opt 19 ref) s3 wx)
  case first =>
    generalize hv : ref.toList.isEmpty = cb
    rcases cb with _ | _
    rotate_left
    · go_wp2
      go_meet
      case rel => exact PutI.cast (K := [⟨17, id⟩] ++ opt 19 ref) HI.out (by rw [isE, decide_eq_true_iff] at hv; simp [opt, hv])
    · go_wp2_with fail
      refine (one_keeps _ _ _ HI.out).mono ?_
      rintro e w2 ⟨rfl, hI2⟩
      go_wp2_with (first | (at_builtin; refine list_fields rfl (.tmp 12) (.tmp 16) rfl i0 hi iz0 iz1 iz2 _ [⟨17, id⟩] [⟨19, ref⟩] rfl (PutI.alloc hI2 _) rfl (lit_news _ _ (by first | rfl | simp) rfl) rfl ⟨?c3, by decide⟩ ?_))
      case c3 => simp
      intro v3 w3 h3
      go_wp2
      go_meet
      case rel => exact PutI.cast (K := [⟨17, id⟩] ++ opt 19 ref) h3 (by rw [isE, decide_eq_false_iff_not] at hv; simp [opt, hv])
  case rest =>
    clear HI r1 hzc
    obtain ⟨L9, hL9⟩ : ∃ L9, L9 = [⟨17, id⟩] ++ opt 19 ref := ⟨_, rfl⟩
    rw [← hL9] at hcut
    have hl9 : L9.length ≤ 2 := by rw [hL9, List.length_append]; have := opt_len 19 ref; simp; omega
    have HL9 := Lib.hid hL9
    clear hL9
    have r6 : wc.cell? ⟨w.heap.size, 6, none⟩ = some (.bool buy) := hcut.bx.cell 6
    have HI := Lib.hid hcut
    have hzc := hcut.below.size
    clear hcut
    go_upto_if 19 with fail
    go_cut [0, 4, 18, 19] (fun _ s4 _ _ wx => s4 = .string (sideV buy) ∧ PutI w [(w.heap.size, 23, #[.string id, .string ref, .string order, .string account, .string symbol, .int .i64 k, .bool buy, .int .i64 qty, .int .i64 price, .int .i64 tm])] L9 u3 wx)
    case first =>
      generalize hv : buy = cb at r6 ⊢
      have Hv := Lib.hid hv
      clear hv
      rcases cb with _ | _
      · go_wp2
        go_meet
        case rel => exact ⟨by rw [Hv.out]; rfl, HI.out⟩
      · go_wp2
        go_meet
        case rel => exact ⟨by rw [Hv.out]; rfl, HI.out⟩
    case rest =>
      obtain ⟨rfl, hcut⟩ := hcut
      clear HI r6 hzc
      obtain ⟨sd, hsd⟩ : ∃ sd, sd = sideV buy := ⟨_, rfl⟩
      rw [← hsd]
      replace hsd := Lib.hid hsd
      have HC := Lib.hid (fun (W : World) (L : List Fld) (s : Value) (h : PutI w [(w.heap.size, 23, #[.string id, .string ref, .string order, .string account, .string symbol, .int .i64 k, .bool buy, .int .i64 qty, .int .i64 price, .int .i64 tm])] L s W) => (show W.cell? ⟨w.heap.size, 2, none⟩ = some (.string order) ∧ W.cell? ⟨w.heap.size, 3, none⟩ = some (.string account) ∧ W.cell? ⟨w.heap.size, 4, none⟩ = some (.string symbol) ∧ W.cell? ⟨w.heap.size, 5, none⟩ = some (.int .i64 k) ∧ W.cell? ⟨w.heap.size, 7, none⟩ = some (.int .i64 qty) ∧ W.cell? ⟨w.heap.size, 8, none⟩ = some (.int .i64 price) ∧ W.cell? ⟨w.heap.size, 9, none⟩ = some (.int .i64 tm) from ⟨h.bx.cell 2, h.bx.cell 3, h.bx.cell 4, h.bx.cell 5, h.bx.cell 7, h.bx.cell 8, h.bx.cell 9⟩))
      have hI := hcut.drew
      clear hcut
      go_wp2_with fail
      go_region_held3 (fun W => W.cell? ⟨w.heap.size, 2, none⟩ = some (.string order) ∧ W.cell? ⟨w.heap.size, 3, none⟩ = some (.string account) ∧ W.cell? ⟨w.heap.size, 4, none⟩ = some (.string symbol) ∧ W.cell? ⟨w.heap.size, 5, none⟩ = some (.int .i64 k) ∧ W.cell? ⟨w.heap.size, 7, none⟩ = some (.int .i64 qty) ∧ W.cell? ⟨w.heap.size, 8, none⟩ = some (.int .i64 price) ∧ W.cell? ⟨w.heap.size, 9, none⟩ = some (.int .i64 tm)) (first | exact HC.out _ _ _ (by assumption) | exact HC.out _ _ _ (PutI.alloc (by assumption) _)) (first | (go_at_call 38; refine (one_keeps _ _ _ (by assumption)).mono ?_; rintro e w' ⟨rfl, hC⟩) | (go_at_call 39; first | (refine (N5.out _ (by assumption)).mono ?_; rintro e w' ⟨rfl, hC⟩) | (refine (N7.out _ (by assumption)).mono ?_; rintro e w' ⟨rfl, hC⟩) | (refine (N8.out _ (by assumption)).mono ?_; rintro e w' ⟨rfl, hC⟩) | (refine (N9.out _ (by assumption)).mono ?_; rintro e w' ⟨rfl, hC⟩)) | (refine step_fields rfl (.tmp 20) (.tmp 44) rfl i0 hi iz0 iz1 iz2 _ L9 [⟨11, order⟩, ⟨1, account⟩, ⟨55, symbol⟩, ⟨54, sd⟩, ⟨150, nmV k⟩, ⟨32, nmV qty⟩, ⟨31, nmV price⟩, ⟨60, nmV tm⟩] rfl (PutI.alloc (by assumption) _) rfl (lit_news _ _ (by first | rfl | simp) rfl) rfl (by omega) ?_; intro v3 w3 h3))
      all_goals
        go_wp2
        go_ret
        exact HP.out _ _ _ rfl (PutI.cast (K := exL ⟨id, ref, order, account, symbol, k, buy, qty, price, tm⟩) h3 (by rw [HL9.out, hsd.out]; simp [exL]))
end Go.Proofs.YtcfpchcbiknehaaDoorR
