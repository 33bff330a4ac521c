/-
  Layer 3, frame: a body's frame, as the program puts it.
-/
import Derived.Test.YtacaipnjedfdoaaDoorFrmRight
import Derived.Test.YtacaipnjedfdoaaDoorWalk
import Derived.Test.YtacaipnjedfdoaaDoorMo
namespace Go.Proofs.YtacaipnjedfdoaaDoor
open Go.RowKit

/-- nil, or a row that the call may write behind. -/
def Moz (w : World) (base : Nat) (v : Value) (n : Nat) (xs : List Value) : Prop := (v = .slice none 0 0 ∧ n = 0 ∧ xs = []) ∨ Mo w base v n xs
theorem Moz.sl {w : World} {base n : Nat} {v : Value} {xs : List Value} (h : Moz w base v n xs) : ∃ A cap, v = .slice A n cap ∧ Sl w A n cap 1 xs ∧ Fm A := by
  rcases h with ⟨rfl, rfl, rfl⟩ | h
  · exact ⟨none, 0, rfl, Sl.none_ _ _, .inl rfl⟩
  · obtain ⟨g, cap, rfl, hs, _⟩ := h.sl
    exact ⟨_, cap, rfl, hs, .inr ⟨_, _, rfl⟩⟩
def FPutPost (bs : List UInt8) (w : World) (e : Ending) (w' : World) : Prop :=
  ∃ v, e = .returned (.tuple #[v, .int .i64 (frmE bs)]) ∧ Moz w' w.heap.size v (frmV bs).length (bcells (frmV bs)) ∧ Below w.heap.size w w'
theorem fput_bad {bs : List UInt8} {x : Int} (h : frmE bs = x ∧ frmV bs = []) {w w' : World} (hb : Below w.heap.size w w') {e : Ending} (he : e = .returned (.tuple #[.slice none 0 0, .int .i64 x])) : FPutPost bs w e w' :=
  ⟨.slice none 0 0, by rw [h.1]; exact he, by rw [h.2]; exact .inl ⟨rfl, rfl, rfl⟩, hb⟩
theorem fput_good {bs : List UInt8} (h : frmR bs = true) {w w' : World} (hb : Below w.heap.size w w') {v : Value} {n : Nat} {xs : List Value} (ho : Mo w' w.heap.size v n xs) (hx : xs = bcells (frmB bs)) {e : Ending} (he : e = .returned (.tuple #[v, .int .i64 0])) : FPutPost bs w e w' := by
  obtain ⟨h1, h2⟩ := frmE_ok h
  refine ⟨v, by rw [h1]; exact he, .inr ?_, hb⟩
  rw [h2, ← bcells_len, ← hx]
  exact ho.cast rfl ho.len.symm
theorem size_arr (d : List UInt8) : (⟨d.toArray⟩ : ByteArray).size = d.length := by simp [ByteArray.size]
theorem convBeg (W : World) : (convert 22 22 (.slice (some ⟨W.heap.size, 0, none⟩) 12 12)).run Tryd.prog (W.alloc (.cells (#[.int .u8 56, .int .u8 61, .int .u8 70, .int .u8 73, .int .u8 88, .int .u8 46, .int .u8 52, .int .u8 46, .int .u8 52, .int .u8 1, .int .u8 57, .int .u8 61]) 5)) = .ok (.slice (some ⟨W.heap.size, 0, none⟩) 12 12) (W.alloc (.cells (#[.int .u8 56, .int .u8 61, .int .u8 70, .int .u8 73, .int .u8 88, .int .u8 46, .int .u8 52, .int .u8 46, .int .u8 52, .int .u8 1, .int .u8 57, .int .u8 61]) 5 (12, 13))) :=
  Lib.run_convert_bytes_const W _ _ (#[.int .u8 56, .int .u8 61, .int .u8 70, .int .u8 73, .int .u8 88, .int .u8 46, .int .u8 52, .int .u8 46, .int .u8 52, .int .u8 1, .int .u8 57, .int .u8 61]) 12 12 Tryd.underlying22 Tryd.underlying5
theorem moBeg (w : World) (base : Nat) (hb : base ≤ w.heap.size) : Mo (w.alloc (.cells (#[.int .u8 56, .int .u8 61, .int .u8 70, .int .u8 73, .int .u8 88, .int .u8 46, .int .u8 52, .int .u8 46, .int .u8 52, .int .u8 1, .int .u8 57, .int .u8 61]) 5 (12, 13))) base (.slice (some ⟨w.heap.size, 0, none⟩) 12 12) 12 (bcells begL) :=
  Mo.const w base (#[.int .u8 56, .int .u8 61, .int .u8 70, .int .u8 73, .int .u8 88, .int .u8 46, .int .u8 52, .int .u8 46, .int .u8 52, .int .u8 1, .int .u8 57, .int .u8 61]) _ 12 _ hb rfl rfl (by decide)

set_option maxRecDepth 100000 in
set_option maxHeartbeats 1000000 in
theorem frame_Put (A : Option Addr) (n c : Nat) (bs : List UInt8) (w : World) (h : Sl w A n c 1 (bcells bs)) (hn : bs.length = n) (hl : n ≤ 1000000) (hctx : FCtx w) :
    Calls Tryd.prog 9 #[.slice A n c] w (FPutPost bs w) := by
  have HS := Lib.hid h
  have hr := Lib.hid (frame_Right A n c bs w h hn hl hctx)
  clear h
  by_cases hlong : 8000 < n
  · have HP := Lib.hid (fun e w' hb he => fput_bad (w := w) (w' := w') (e := e) (frmE_long (by omega : 8000 < bs.length)) hb he)
    clear hr
    go_enter Tryd.func9, Tryd.ntmps9
    go_wp2
    go_ret2
    exact HP.out _ _ (Below.refl _ _) rfl
  · rcases hR : frmR bs with _ | _
    · have HP := Lib.hid (fun e w' hb he => fput_bad (w := w) (w' := w') (e := e) (frmE_arg (by omega : ¬ 8000 < bs.length) hR) hb he)
      rw [hR] at hr
      clear hR
      go_enter Tryd.func9, Tryd.ntmps9
      go_wp2_with (go_at_call 13; refine hr.out.mono ?_; rintro e w1 ⟨rfl, hb1⟩)
      go_ret2
      exact HP.out _ _ hb1 rfl
    · have HP := Lib.hid (fun w' hb v n xs ho hx e he => fput_good (w := w) (w' := w') hR hb (v := v) (n := n) (xs := xs) ho hx (e := e) he)
      rw [hR] at hr
      have hlen := frmR_len hR
      have hd4 := decDigits_le4 hlen.2
      have hfb := Lib.hid (show frmB bs = begL ++ Lib.decDigits n ++ [1] ++ bs ++ [49, 48, 61] ++ dig3 (sumN (begL ++ Lib.decDigits n ++ [1] ++ bs)) ++ [1] by rw [← hn]; rfl)
      clear hR
      have hitoa : Hid (∀ W, Below w.heap.size w W → Calls Tryd.prog 14 #[.int .i64 n] W fun e w' => e = .returned (.string ⟨(Lib.decDigits n).toArray⟩) ∧ Below W.heap.size W w') := fun W hW =>
        (Tryd.strconv_Itoa n (by omega) (by omega) W (hctx.on hW).1.1).mono fun e w' ⟨he, k, os, hw⟩ => ⟨by rw [he, itoa_nat], by rw [hw]; exact Lib.below_grow _ _ (Nat.le_refl _) _ _⟩
      have hthree : Hid (∀ s W, s < 256 → Below w.heap.size w W → Calls Tryd.prog 16 #[.int .i64 (s : Nat)] W fun e w' => e = .returned (.string ⟨(dig3 s).toArray⟩) ∧ Below W.heap.size W w') := fun s W hs hW => frame_three s hs W (hctx.on hW).1
      rw [hn] at hlen hd4
      generalize Lib.decDigits n = d at *
      obtain ⟨i0, hi, iz0, iz1, iz2⟩ := info_parts infoB
      have kc := convBeg
      go_enter Tryd.func9, Tryd.ntmps9
      go_wp2_with (go_at_call 13; refine hr.out.mono ?_; rintro e w1 ⟨rfl, hb1⟩)
      have hz1 := hb1.size
      have own1 := moBeg w1 w.heap.size hz1
      have hB1 := hb1.alloc hz1 (.cells (#[.int .u8 56, .int .u8 61, .int .u8 70, .int .u8 73, .int .u8 88, .int .u8 46, .int .u8 52, .int .u8 46, .int .u8 52, .int .u8 1, .int .u8 57, .int .u8 61]) 5 (12, 13))
      refine (hitoa.out _ hB1).mono ?_
      rintro e w2 ⟨rfl, hb2⟩
      have own2 := own1.on hb2
      have hz2 := hb2.size
      simp only [World.size_alloc] at hz2
      have hB2 : Below w.heap.size w w2 := hB1.trans (hb2.mono (by simp; omega))
      have hsz := size_arr d
      clear own1 hb2 hitoa hr hB1 kc
      go_wp2_with (at_builtin; refine wpList_append_mo_string rfl (.tmp 14) (.tmp 17) 22 9 rfl w.heap.size 5 i0 Tryd.underlying22 Tryd.underlying9 hi iz0 iz1 iz2 _ _ _ rfl own2 ⟨d.toArray⟩ rfl (by rw [hsz]; unfold maxLen; omega) (by rw [hsz]; omega) (by omega) ?_)
      intro v3 w3 own3 hg3
      have hB3 := own2.below hB2 hg3 (by omega) (Nat.le_refl _)
      have hz3 := hg3.size
      try rw [hsz] at own3
      clear hg3 own2
      go_wp2_with (at_builtin; refine wpList_append_mo rfl (.tmp 19) (.tmp 20) 22 rfl w.heap.size 5 i0 Tryd.underlying22 hi iz0 iz1 iz2 _ _ _ rfl (own3.alloc _) (some ⟨w3.heap.size, 0, none⟩) 1 1 [.int .u8 1] rfl (sl_new1 w3 _ _) (one_cell1 _ _) ?c3 ?c4 ?c5 ?_)
      case c3 => unfold maxLen; omega
      case c4 => omega
      case c5 => simp; omega
      intro v4 w4 own4 hg4 _
      have hB4 := (own3.alloc _).below (hB3.alloc (by omega) _) hg4 (by simp; omega) (Nat.le_refl _)
      have hz4 := hg4.size
      simp only [World.size_alloc] at hz4
      have hx4 := HS.out.on hB4
      clear hg4 own3
      go_wp2_with (at_builtin; refine wpList_append_mo rfl (.tmp 22) (.tmp 23) 22 rfl w.heap.size 5 i0 Tryd.underlying22 hi iz0 iz1 iz2 _ _ _ rfl own4 A n c (bcells bs) rfl hx4 (bcells_one _) ?d3 ?d4 ?d5 ?_)
      case d3 => unfold maxLen; omega
      case d4 => omega
      case d5 => omega
      intro v5 w5 own5 hg5 _
      have hB5 := own4.below hB4 hg5 (by omega) (Nat.le_refl _)
      have hz5 := hg5.size
      clear hg5 own4 hx4 HS
      generalize hq : begL ++ d ++ [1] ++ bs = q at *
      have hql : 12 + d.length + 1 + n = q.length := by rw [← hq]; simp [begL]; omega
      have own6 : Mo w5 w.heap.size v5 q.length (bcells q) := own5.cast (by rw [← hq]; simp [bcells_str, bcells]) hql
      have hq9 : q.length ≤ 9000 := by omega
      have hsm := sumN_lt q
      clear own5 hq hql
      obtain ⟨g5, c5, rfl, hs5, _⟩ := own6.sl
      go_wp2_with fail
      refine (frame_Sum (some ⟨g5, 0, none⟩) _ c5 q w5 hs5.row rfl (by omega)).mono ?_
      rintro e w' ⟨rfl, rfl⟩
      generalize sumN q = s at *
      go_wp2_with (at_builtin; refine wpList_append_mo_string rfl (.tmp 27) _ 22 9 rfl w.heap.size 5 i0 Tryd.underlying22 Tryd.underlying9 hi iz0 iz1 iz2 _ _ _ rfl own6 ⟨#[49, 48, 61]⟩ rfl (show q.length + 3 ≤ maxLen by unfold maxLen; omega) (show q.length + 3 ≤ _ by omega) (by omega) ?_)
      intro v7 w7 own7 hg7
      have hB7 := own6.below hB5 hg7 (by omega) (Nat.le_refl _)
      have hz7 := hg7.size
      clear hg7 own6 hs5
      try rw [show (⟨#[49, 48, 61]⟩ : ByteArray).size = 3 from rfl] at own7
      go_wp2_with fail
      refine (hthree.out s _ hsm hB7).mono ?_
      rintro e w8 ⟨rfl, hb8⟩
      have own8 := own7.on hb8
      have hz8 := hb8.size
      have hB8 : Below w.heap.size w w8 := hB7.trans (hb8.mono (by omega))
      have hs3 := size_arr (dig3 s)
      rw [show (dig3 s).length = 3 from rfl] at hs3
      clear own7 hb8 hthree
      go_wp2_with (at_builtin; refine wpList_append_mo_string rfl (.tmp 29) (.tmp 31) 22 9 rfl w.heap.size 5 i0 Tryd.underlying22 Tryd.underlying9 hi iz0 iz1 iz2 _ _ _ rfl own8 ⟨(dig3 s).toArray⟩ rfl (by rw [hs3]; unfold maxLen; omega) (by rw [hs3]; omega) (by omega) ?_)
      intro v9 w9 own9 hg9
      have hB9 := own8.below hB8 hg9 (by omega) (Nat.le_refl _)
      have hz9 := hg9.size
      try rw [hs3] at own9
      clear hg9 own8
      go_wp2_with (at_builtin; refine wpList_append_mo rfl (.tmp 33) (.tmp 34) 22 rfl w.heap.size 5 i0 Tryd.underlying22 hi iz0 iz1 iz2 _ _ _ rfl (own9.alloc _) (some ⟨w9.heap.size, 0, none⟩) 1 1 [.int .u8 1] rfl (sl_new1 w9 _ _) (one_cell1 _ _) ?e3 ?e4 ?e5 ?_)
      case e3 => unfold maxLen; omega
      case e4 => omega
      case e5 => simp; omega
      intro v10 w10 own10 hg10 _
      have hB10 := (own9.alloc _).below (hB9.alloc (by omega) _) hg10 (by simp; omega) (Nat.le_refl _)
      clear hg10 own9
      go_wp2
      go_ret2
      refine HP.out _ hB10 _ _ _ own10 ?_ _ rfl
      rw [hfb.out]
      simp [bcells_str, bcells]
end Go.Proofs.YtacaipnjedfdoaaDoor
