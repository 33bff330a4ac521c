/-
  Layer 3, frame: a body's frame, as the document's own way puts it.
-/
import Derived.Test.YtacaipnjedfdoaaGreatDoorFrmPut
import Derived.Test.YtacaipnjedfdoaaGreatDoorFieldRefPut
namespace Go.Proofs.YtacaipnjedfdoaaGreatDoor
open Go.RowKit

theorem showL_small {n : Nat} (h : n ≤ 8000) : showL (n : Int) = Lib.decDigits n := by
  unfold showL
  rw [if_pos (right_t (by omega) (by omega)), itoa_nat]
theorem dig3_cells (s : Nat) (hs : s < 256) : (#[.int .u8 49, .int .u8 48, .int .u8 61, .int .u8 (48 + (s : Int) / 100), .int .u8 (48 + (s : Int) / 10 % 10), .int .u8 (48 + (s : Int) % 10), .int .u8 1] : Array Value).toList = bcells ([49, 48, 61] ++ dig3 s ++ [1]) := by
  have h : ∀ k, k < 10 → ((UInt8.ofNat (48 + k)).toNat : Int) = 48 + (k : Int) := fun k hk => by rw [digit_nat k hk]; omega
  show _ = (([49, 48, 61] ++ [UInt8.ofNat (48 + s / 100), UInt8.ofNat (48 + s / 10 % 10), UInt8.ofNat (48 + s % 10)] ++ [1]) : List UInt8).map fun c => Value.int .u8 c.toNat
  simp only [List.map_append, List.map_cons, List.map_nil, h (s / 100) (by omega), h (s / 10 % 10) (by omega), h (s % 10) (by omega)]
  have e1 : ((s / 100 : Nat) : Int) = (s : Int) / 100 := by omega
  have e2 : ((s / 10 % 10 : Nat) : Int) = (s : Int) / 10 % 10 := by omega
  have e3 : ((s % 10 : Nat) : Int) = (s : Int) % 10 := by omega
  rw [e1, e2, e3]
  rfl
set_option maxRecDepth 100000 in
set_option maxHeartbeats 1000000 in
theorem ref_Put3 (A : Option Addr) (n c : Nat) (bs : List UInt8) (w : World) (h : Sl w A n c 1 (bcells bs)) (hn : bs.length = n) (hl : n ≤ 1000000) :
    Calls Tryz.prog 25 #[.slice A n c] w (FPutPost bs w) := by
  have HS := Lib.hid h
  have hr := Lib.hid (ref_Right3 A n c bs w h hn hl)
  clear h
  by_cases hlong : 8000 < n
  · have HP := Lib.hid (fun e w' hb he => fput_bad (w := w) (w' := w') (e := e) (frmE_long (by omega : 8000 < bs.length)) hb he)
    clear hr
    go_enter Tryz.func25, Tryz.ntmps25
    go_wp2
    go_ret2
    exact HP.out _ _ (Below.refl _ _) rfl
  · rcases hR : frmR bs with _ | _
    · have HP := Lib.hid (fun e w' hb he => fput_bad (w := w) (w' := w') (e := e) (frmE_arg (by omega : ¬ 8000 < bs.length) hR) hb he)
      rw [hR] at hr
      clear hR
      go_enter Tryz.func25, Tryz.ntmps25
      go_wp2_with (go_at_call 34; refine hr.out.mono ?_; rintro e w1 ⟨rfl, hb1⟩)
      go_ret2
      exact HP.out _ _ hb1 rfl
    · have HP := Lib.hid (fun w' hb v n xs ho hx e he => fput_good (w := w) (w' := w') hR hb (v := v) (n := n) (xs := xs) ho hx (e := e) he)
      rw [hR] at hr
      have hlen := frmR_len hR
      have hd4 := decDigits_le4 hlen.2
      have hfb := Lib.hid (show frmB bs = begL ++ Lib.decDigits n ++ [1] ++ bs ++ [49, 48, 61] ++ dig3 (sumN (begL ++ Lib.decDigits n ++ [1] ++ bs)) ++ [1] by rw [← hn]; rfl)
      clear hR
      have hshow : Hid (∀ W, Calls Tryz.prog 35 #[.int .i64 n] W fun e w' => e = .returned (.string ⟨(Lib.decDigits n).toArray⟩) ∧ W = w') := fun W => by
        have := ref_Show n W
        rwa [showL_small (by omega)] at this
      rw [hn] at hlen hd4
      generalize Lib.decDigits n = d at *
      obtain ⟨i0, hi, iz0, iz1, iz2⟩ := info_parts infoB
      have kb := runBytes
      go_enter Tryz.func25, Tryz.ntmps25
      go_wp2_with fail
      refine hr.out.mono ?_
      rintro e w1 ⟨rfl, hb1⟩
      have hz1 := hb1.size
      have hbw : ∀ s : ByteArray, Below w.heap.size w (Lib.bytesWorld w1 5 s) := fun s => hb1.trans (Go.Joins.below_bytesWorld _ _ _ _ hz1)
      go_wp2_with fail
      refine (hshow.out _).mono ?_
      rintro e w' ⟨rfl, rfl⟩
      clear hr hshow
      have hsz : ((⟨#[56, 61, 70, 73, 88, 46, 52, 46, 52, 1, 57, 61]⟩ : ByteArray) ++ ⟨d.toArray⟩ ++ ⟨#[1]⟩).size = 12 + d.length + 1 := by
        rw [ByteArray.size_append, ByteArray.size_append, size_arr]; rfl
      have hmo := Mo.bytes w1 w.heap.size 5 ((⟨#[56, 61, 70, 73, 88, 46, 52, 46, 52, 1, 57, 61]⟩ : ByteArray) ++ ⟨d.toArray⟩ ++ ⟨#[1]⟩) hz1 (by rw [hsz]; unfold maxLen; omega)
      rw [hsz] at hmo
      have hxs := HS.out.on (hbw ((⟨#[56, 61, 70, 73, 88, 46, 52, 46, 52, 1, 57, 61]⟩ : ByteArray) ++ ⟨d.toArray⟩ ++ ⟨#[1]⟩))
      have hsc : Lib.strCells ((⟨#[56, 61, 70, 73, 88, 46, 52, 46, 52, 1, 57, 61]⟩ : ByteArray) ++ ⟨d.toArray⟩ ++ ⟨#[1]⟩) = bcells (begL ++ d ++ [1]) := by
        rw [bcells_str]; congr 1
      rw [hsc] at hmo
      clear hsc
      have hB2 := hbw ((⟨#[56, 61, 70, 73, 88, 46, 52, 46, 52, 1, 57, 61]⟩ : ByteArray) ++ ⟨d.toArray⟩ ++ ⟨#[1]⟩)
      have hz2 := Lib.bytesWorld_size w1 5 ((⟨#[56, 61, 70, 73, 88, 46, 52, 46, 52, 1, 57, 61]⟩ : ByteArray) ++ ⟨d.toArray⟩ ++ ⟨#[1]⟩)
      go_wp2_with (at_builtin; refine wpList_append_mo rfl (.tmp 18) (.tmp 19) 22 rfl w.heap.size 5 i0 Tryz.underlying22 hi iz0 iz1 iz2 _ _ _ rfl hmo A n c (bcells bs) rfl hxs (bcells_one _) ?c3 ?c4 ?c5 ?_)
      case c3 => unfold maxLen; omega
      case c4 => omega
      case c5 => omega
      intro v5 w5 own5 hg5 _
      have hB5 := hmo.below hB2 hg5 (by omega) (Nat.le_refl _)
      have hz5 := hg5.size
      clear hg5 hmo hxs HS hbw hsz hB2 kb
      generalize hq : begL ++ d ++ [1] ++ bs = q at *
      have hql : 12 + d.length + 1 + n = q.length := by rw [← hq]; simp [begL]; omega
      have own6 : Mo w5 w.heap.size v5 q.length (bcells q) := own5.cast (by rw [← hq]; simp [bcells]) hql
      have hq9 : q.length ≤ 9000 := by omega
      have hsm := sumN_lt q
      clear own5 hq hql
      obtain ⟨g5, c5, rfl, hs5, _⟩ := own6.sl
      go_wp2_with fail
      refine (ref_Sum3 (some ⟨g5, 0, none⟩) _ c5 q w5 hs5.row rfl (by omega)).mono ?_
      rintro e w' ⟨rfl, rfl⟩
      generalize sumN q = s at *
      have own7 := own6.alloc (.cells #[.int .u8 49, .int .u8 48, .int .u8 61, .int .u8 (48 + (s : Int) / 100), .int .u8 (48 + (s : Int) / 10 % 10), .int .u8 (48 + (s : Int) % 10), .int .u8 1] 5)
      have hs7 := sl_new w5 #[.int .u8 49, .int .u8 48, .int .u8 61, .int .u8 (48 + (s : Int) / 100), .int .u8 (48 + (s : Int) / 10 % 10), .int .u8 (48 + (s : Int) % 10), .int .u8 1] 7 5 (bcells ([49, 48, 61] ++ dig3 s ++ [1])) rfl (dig3_cells s hsm) (by decide)
      have hB7 := hB5.alloc (by omega) (.cells #[.int .u8 49, .int .u8 48, .int .u8 61, .int .u8 (48 + (s : Int) / 100), .int .u8 (48 + (s : Int) / 10 % 10), .int .u8 (48 + (s : Int) % 10), .int .u8 1] 5)
      clear own6 hs5 hB5
      go_wp2_with (at_builtin; refine wpList_append_mo rfl (.tmp 23) (.tmp 37) 22 rfl w.heap.size 5 i0 Tryz.underlying22 hi iz0 iz1 iz2 _ _ _ rfl own7 (some ⟨w5.heap.size, 0, none⟩) 7 7 _ rfl hs7 (bcells_one _) ?d3 ?d4 ?d5 ?_)
      case d3 => unfold maxLen; omega
      case d4 => omega
      case d5 => simp; omega
      intro v8 w8 own8 hg8 _
      have hB8 := own7.below hB7 hg8 (by simp; omega) (Nat.le_refl _)
      clear hg8 own7 hs7
      go_wp2
      go_ret2
      refine HP.out _ hB8 _ _ _ own8 ?_ _ rfl
      rw [hfb.out]
      simp [bcells]
end Go.Proofs.YtacaipnjedfdoaaGreatDoor
