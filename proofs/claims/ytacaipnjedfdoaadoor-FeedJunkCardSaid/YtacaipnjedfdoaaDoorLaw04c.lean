/-
  Layer 4's laws: the walk of FeedJunk.
-/
import Derived.Test.YtacaipnjedfdoaaDoorLaw04
namespace Go.Proofs.YtacaipnjedfdoaaDoor
open Go.RowKit

theorem feed_between {a b x : List UInt8} (ha : (56 : UInt8) ∉ a) (hb : (56 : UInt8) ∉ b) (hR : frmR x = true) : feed (a ++ (frmB x ++ b)) = ([x], a.length + b.length, []) := by
  rw [feed_cat a.length a _ (Nat.le_refl _), feed_no8 ha]
  show cat _ (feed ([] ++ (frmB x ++ b))) = _
  rw [List.nil_append, feed_put hR, feed_no8 hb]; rfl
theorem mo_empty4 (w : World) (t : TypeId) : Mo (w.alloc (.cells #[] t)) w.heap.size (.slice (some ⟨w.heap.size, 0, none⟩) 0 0) 0 [] :=
  Mo.of_block (Nat.le_refl _) (heap_alloc_new w _) (.inl rfl) rfl rfl (Nat.le_refl _) (by decide)
set_option maxRecDepth 100000 in
set_option maxHeartbeats 4000000 in
theorem walk_FeedJunk (A : Option Addr) (n c : Nat) (l : List UInt8) (hn : l.length = n) (A' : Option Addr) (n' c' : Nat) (x : List UInt8) (hn' : x.length = n') (D : Option Addr) (m d : Nat) (y : List UInt8) (hm : y.length = m)
    (w : World) (h : Sl w A n c 1 (bcells l)) (h' : Sl w A' n' c' 1 (bcells x)) (hy : Sl w D m d 1 (bcells y)) (hctx : FCtx w) :
    Calls Tryd.prog 5 #[.slice A n c, .slice A' n' c', .slice D m d] w fun e w' => e = .returned (.bool true) ∧ Below w.heap.size w w' := by
  have hcm := h.cap
  have hnc := h.le
  have hcm' := h'.cap
  have hnc' := h'.le
  have hcd := hy.cap
  have hmd := hy.le
  unfold maxLen at hcm hcm' hcd
  have HL := Lib.hid h
  have HX := Lib.hid h'
  have HY := Lib.hid hy
  clear h h' hy
  by_cases hbig : 1000 < n ∨ 1000 < n' ∨ 1000 < m
  · rcases (show 1000 < n ∨ (¬ 1000 < n ∧ 1000 < n') ∨ (¬ 1000 < n ∧ ¬ 1000 < n' ∧ 1000 < m) by omega) with h | ⟨h1, h⟩ | ⟨h1, h2, h⟩
    all_goals
      clear hbig
      go_enter Tryd.func5, Tryd.ntmps5
      go_wp2_with fail
      refine (awake04 w hctx).mono ?_
      rintro e w1 ⟨rfl, hb1⟩
      go_wp2
      go_ret
      exact ⟨rfl, hb1⟩
  · have hn1 : ¬ 1000 < n := by omega
    have hn2 : ¬ 1000 < n' := by omega
    have hn3 : ¬ 1000 < m := by omega
    clear hbig
    go_enter Tryd.func5, Tryd.ntmps5
    go_wp2_with fail
    refine (awake04 w hctx).mono ?_
    rintro e w1 ⟨rfl, hb1⟩
    go_wp2_with fail
    go_loop [7] (fun i => ∃ k : Nat, i = .int .i64 k ∧ k ≤ n ∧ Hid ((56 : UInt8) ∉ l.take k)) (fun i => n - (intOf i).toNat)
    case atStart => exact ⟨0, rfl, by omega, Lib.hid (by simp)⟩
    case round =>
      obtain ⟨k, rfl, hk, Hk⟩ := hrel
      by_cases hlt : k < n
      · have hkl : k < l.length := by omega
        obtain ⟨b, off, rfl, h0⟩ := (HL.out.on hb1).row.byte hkl
        rcases u8_beq (c := l[k]) (n := 56) (by omega) with ⟨d1, d2, d3⟩ | ⟨d1, d2, d3⟩
        · replace h0 : w1.cell? ⟨b, off + k, none⟩ = some (.int .u8 56) := by rw [h0, d3]; rfl
          clear Hk d1 d2 d3
          go_wp2
          go_ret
          exact ⟨rfl, hb1⟩
        · have d1' : ((l[k].toNat : Int) == 56) = false := d1
          have Hk2 := Lib.hid (show (56 : UInt8) ∉ l.take (k + 1) by
            rw [List.take_succ_eq_append_getElem hkl, List.mem_append]
            rintro (h | h)
            · exact Hk.out h
            · simp at h; exact d3 h.symm)
          clear Hk d1 d2 d3
          generalize l[k].toNat = z at h0 d1'
          go_wp2
          go_round
          case rel => exact ⟨k + 1, by go_num, by omega, Hk2⟩
          case measure => simp [intOf]; omega
      · obtain rfl : k = n := by omega
        have h8 : (56 : UInt8) ∉ l := by have := Hk.out; rwa [List.take_of_length_le (by omega)] at this
        have H8 := Lib.hid h8
        clear Hk h8
        go_wp2
        go_loop [8] (fun i => ∃ k : Nat, i = .int .i64 k ∧ k ≤ m ∧ Hid ((56 : UInt8) ∉ y.take k)) (fun i => m - (intOf i).toNat)
        case atStart => exact ⟨0, rfl, by omega, Lib.hid (by simp)⟩
        case round =>
          obtain ⟨j, rfl, hj, Hj⟩ := hrel
          by_cases hlt : j < m
          · have hkl : j < y.length := by omega
            obtain ⟨b, off, rfl, h0⟩ := (HY.out.on hb1).row.byte hkl
            rcases u8_beq (c := y[j]) (n := 56) (by omega) with ⟨d1, d2, d3⟩ | ⟨d1, d2, d3⟩
            · replace h0 : w1.cell? ⟨b, off + j, none⟩ = some (.int .u8 56) := by rw [h0, d3]; rfl
              clear Hj d1 d2 d3
              go_wp2
              go_ret
              exact ⟨rfl, hb1⟩
            · have d1' : ((y[j].toNat : Int) == 56) = false := d1
              have Hj2 := Lib.hid (show (56 : UInt8) ∉ y.take (j + 1) by
                rw [List.take_succ_eq_append_getElem hkl, List.mem_append]
                rintro (h | h)
                · exact Hj.out h
                · simp at h; exact d3 h.symm)
              clear Hj d1 d2 d3
              generalize y[j].toNat = z at h0 d1'
              go_wp2
              go_round
              case rel => exact ⟨j + 1, by go_num, by omega, Hj2⟩
              case measure => simp [intOf]; omega
          · obtain rfl : j = m := by omega
            have h8 : (56 : UInt8) ∉ y := by have := Hj.out; rwa [List.take_of_length_le (by omega)] at this
            have Y8 := Lib.hid h8
            clear Hj h8
            have HI := Lib.hid (in_fine feed_In (kb := []) (n := 0) (c := 0) (A := none) (Sl.none_ w1 1) rfl (HL.out.on hb1) hn (by omega) (by omega) (hctx.on hb1) l rfl)
            rw [show InFine l w1 = fun e w' => ∃ A c B d, e = .returned (.tuple #[.slice A 0 c, .slice B 0 d, .int .i64 (k : Nat), .int .i64 0]) ∧ Sl w' A 0 c 1 [] ∧ SlL w' B 0 d [] ∧ Below w1.heap.size w1 w' from by
              funext e w'; unfold InFine; rw [feed_no8 H8.out, hn]; rfl] at HI
            go_wp2_with fail
            refine HI.out.mono ?_
            rintro e w2 ⟨A2, c2, B2, d2, rfl, _, _, hb2⟩
            have hB2 : Below w.heap.size w w2 := hb1.trans (hb2.mono hb1.size)
            have hp := frame_Put A' n' c' x w2 (HX.out.on hB2) hn' (by omega) (hctx.on hB2)
            rw [show FPutPost x w2 = fun e w' => ∃ v, e = .returned (.tuple #[v, .int .i64 (frmE x)]) ∧ Moz w' w2.heap.size v (frmV x).length (bcells (frmV x)) ∧ Below w2.heap.size w2 w' from rfl] at hp
            rcases Bool.eq_false_or_eq_true (frmR x) with hR | hR
            · obtain ⟨e1, e2⟩ := frmE_ok hR
              rw [e1, e2] at hp
              have hfl := frmB_len x
              have hd4 := decDigits_le4 (frmR_len hR).2
              have Hp := Lib.hid hp
              have HF := Lib.hid (feed_between H8.out Y8.out hR)
              have hF : (frmB x).length ≤ 1100 := by omega
              clear hp e1 e2 hfl hd4 HI hR H8 Y8
              generalize frmB x = F at *
              go_wp2_with fail
              refine Hp.out.mono ?_
              rintro e w3 ⟨f, rfl, hmo, hb3⟩
              have hB3 : Below w.heap.size w w3 := hB2.trans (hb3.mono hB2.size)
              obtain ⟨Af, cf, rfl, hsf, _⟩ := hmo.sl
              obtain ⟨i0, hi, iz0, iz1, iz2⟩ := info_parts infoB
              have own0 := mo_empty4 w3 5
              have hz3 := hB3.size
              have hB4 := hB3.alloc hz3 (.cells #[] 5)
              have hx3 := HL.out.on hB4
              have HFs := Lib.hid hsf
              clear Hp hmo hsf
              go_wp2_with (at_builtin; refine wpList_append_mo rfl (.tmp 85) (.tmp 86) 22 rfl w3.heap.size 5 i0 Tryd.underlying22 hi iz0 iz1 iz2 _ _ _ rfl own0 A k c (bcells l) rfl hx3 (bcells_one _) ?c3 ?c4 ?c5 ?_)
              all_goals first | (unfold maxLen; omega) | omega | (simp; done) | skip
              intro v4 w4 own4 hg4 _
              have hb4 : Below w3.heap.size w3 w4 := own0.below ((Below.refl _ _).alloc (Nat.le_refl _) _) hg4 (by simp) (Nat.le_refl _)
              have hz4 := hb4.size
              have hy4 := HFs.out.on hb4
              clear hg4 own0 hx3 hB4
              go_wp2_with (at_builtin; refine wpList_append_mo rfl (.tmp 87) (.tmp 88) 22 rfl w3.heap.size 5 i0 Tryd.underlying22 hi iz0 iz1 iz2 _ _ _ rfl own4 Af F.length cf (bcells F) rfl hy4 (bcells_one _) ?d3 ?d4 ?d5 ?_)
              all_goals first | (unfold maxLen; omega) | omega | skip
              intro v5 w5 own5 hg5 _
              have hb5 : Below w3.heap.size w3 w5 := own4.below hb4 hg5 hz4 (Nat.le_refl _)
              have hB5 : Below w.heap.size w w5 := hB3.trans (hb5.mono hz3)
              have hz5 := hb5.size
              have hy5 := HY.out.on hB5
              clear hg5 own4 hy4 hb4
              go_wp2_with (at_builtin; refine wpList_append_mo rfl (.tmp 89) (.tmp 90) 22 rfl w3.heap.size 5 i0 Tryd.underlying22 hi iz0 iz1 iz2 _ _ _ rfl own5 D j d (bcells y) rfl hy5 (bcells_one _) ?e3 ?e4 ?e5 ?_)
              all_goals first | (unfold maxLen; omega) | omega | skip
              intro v6 w6 own6 hg6 _
              have hb6 : Below w3.heap.size w3 w6 := own5.below hb5 hg6 hz5 (Nat.le_refl _)
              have hB6 : Below w.heap.size w w6 := hB3.trans (hb6.mono hz3)
              obtain ⟨g, cs, rfl, hs6, _, _⟩ := (own6.cast (show _ = bcells (l ++ (F ++ y)) by simp [bcells]) rfl).sl
              have HI2 := Lib.hid (in_fine feed_In (kb := []) (n := 0) (c := 0) (A := none) (Sl.none_ w6 1) rfl hs6 (by rw [List.length_append, List.length_append]; omega) (by omega) (by omega) (hctx.on hB6) (l ++ (F ++ y)) rfl)
              rw [show InFine (l ++ (F ++ y)) w6 = fun e w' => ∃ A c B d, e = .returned (.tuple #[.slice A 0 c, .slice B 1 d, .int .i64 ((k + j : Nat)), .int .i64 0]) ∧ Sl w' A 0 c 1 [] ∧ SlL w' B 1 d [x] ∧ Below w6.heap.size w6 w' from by
                funext e w'; unfold InFine; rw [HF.out, hn, hm]; rfl] at HI2
              clear hg6 own5 hy5 own6 HFs hb5 hB5 hb6 hs6 HF
              go_wp2_with fail
              refine HI2.out.mono ?_
              rintro e w7 ⟨A7, c7, B7, d7, rfl, _, hl7, hb7⟩
              have hB7 : Below w.heap.size w w7 := hB6.trans (hb7.mono hB6.size)
              obtain ⟨b7, o7, rfl, B8, m8, d8, hc8, he8⟩ := hl7.get (k := 0) (show 0 < [x].length by simp)
              rw [Nat.add_zero] at hc8
              have hbq : ∀ q, Below w7.heap.size w7 (w7.drewN q) := fun q => ⟨rfl, rfl, rfl, Nat.le_refl _, fun _ _ => rfl⟩
              have q1 := fun q => conv_sl (l := x) (he8.sl.on (hbq q))
              have q2 := fun q => conv_sl ((HX.out.on hB7).on (hbq q))
              clear HI2 hl7 he8 hbq
              generalize (⟨x.toArray⟩ : ByteArray) = SX at *
              go_wp2
              go_quiet (fail)
              clear q1 q2
              go_wp2
              go_ret
              exact ⟨rfl, ⟨hB7.os, hB7.tape, hB7.output, hB7.size, hB7.block⟩⟩
            · obtain ⟨e1, e2⟩ := frmE_arg (b := x) (by omega) hR
              rw [e1, e2] at hp
              have Hp := Lib.hid hp
              clear hp e1 e2 HI
              go_wp2_with fail
              refine Hp.out.mono ?_
              rintro e w3 ⟨f, rfl, hmo, hb3⟩
              have hB3 : Below w.heap.size w w3 := hB2.trans (hb3.mono hB2.size)
              obtain ⟨Af, cf, rfl, hsf, _⟩ := hmo.sl
              clear Hp hmo hsf
              go_wp2
              go_ret
              exact ⟨rfl, hB3⟩
end Go.Proofs.YtacaipnjedfdoaaDoor
