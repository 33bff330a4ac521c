/-
  Layer 3, frame: how much is junk: the program's answer.
-/
import Derived.Test.YtacaipnjedfdoaaDoorFrmLen
import Derived.Test.YtacaipnjedfdoaaDoorFrmPut
namespace Go.Proofs.YtacaipnjedfdoaaDoor
open Go.RowKit

theorem retI {k : IntKind} {a b : Int} (h : a = b) : Ending.returned (.int k a) = .returned (.int k b) := by rw [h]
theorem Sl.cut {w : World} {A : Option Addr} {n c : Nat} {cs : List Value} (h : Sl w A n c 1 cs) (k : Nat) (hk : k ≤ n) : Sl w (if c = k then A else A.map (fun x => x.add k)) (n - k) (c - k) 1 (cs.drop k) := by
  have hl := h.len
  have hle := h.le
  have hcap := h.cap
  refine ⟨by rw [List.length_drop]; omega, by omega, by omega, fun hA => ?_, h.row.cut k c (by omega)⟩
  have : A = none := by
    by_cases hc : c = k
    · rw [if_pos hc] at hA; exact hA
    · rw [if_neg hc] at hA; cases A with
      | none => rfl
      | some a => cases hA
  have := h.nil this
  omega
theorem Sl.front {w : World} {A : Option Addr} {n c : Nat} {cs : List Value} (h : Sl w A n c 1 cs) (k : Nat) (hk : k ≤ n) : Sl w A k c 1 (cs.take k) := by
  have hl := h.len
  have hle := h.le
  refine ⟨by rw [List.length_take]; omega, by omega, h.cap, fun hA => ?_, h.row.take k⟩
  have := h.nil hA
  omega
theorem ints_range (l : List UInt8) : ∀ x ∈ l.map (fun c => (c.toNat : Int)), 0 ≤ x ∧ x < 256 := by
  intro x hx
  simp only [List.mem_map] at hx
  obtain ⟨c, _, rfl⟩ := hx
  have := c.toNat_lt
  omega
theorem bytesIndexBeg (b off n c g : Nat) (l : List UInt8) (w : World) (h : Row w (some ⟨b, off, none⟩) (bcells l)) (hn : l.length = n) (hc : n ≤ c) (hl : n ≤ 1000000) (hg : Row w (some ⟨g, 0, none⟩) (bcells begL)) (hctx : FCtx w) :
    Calls Tryd.prog 30 #[.slice (some ⟨b, off, none⟩) n c, .slice (some ⟨g, 0, none⟩) 12 12] w fun e w' => e = .returned (.int .i64 (Lib.index l begL)) ∧ Below w.heap.size w w' := by
  subst hn
  obtain ⟨m, hm⟩ := hctx.2.2
  refine (Tryd.bytes_Index_at ⟨b, off, none⟩ ⟨g, 0, none⟩ l.length c 12 12 (l.map fun c => (c.toNat : Int)) (begL.map fun c => (c.toNat : Int)) m w (by simp) (by rfl) (ints_range l) (ints_range begL)
    (fun i hi => by rw [addr_at]; exact h.ints i hi) (fun i hi => by rw [addr_at]; exact hg.ints i hi) hc (by omega) (by decide) hm).mono fun e w' ⟨he, q, hw⟩ => ⟨?_, ?_⟩
  · rw [he, bytesOf_ints, bytesOf_ints]
  · rw [hw]; exact ⟨rfl, rfl, rfl, Nat.le_refl _, fun _ _ => rfl⟩
theorem junk_of_index {bs : List UInt8} {i : Nat} (h : Lib.index (bs.drop 1) begL = (i : Int)) : junkN bs = i + 1 := by
  unfold junkN
  rw [← List.drop_one, index_skip _ i h]
theorem junk_starts {bs : List UInt8} (h : Lib.index (bs.drop 1) begL < 0) (j : Nat) (h1 : 1 ≤ j) : begs (bs.drop j) = starts3 (bs.drop j) := by
  have := index_neg h (j - 1)
  rwa [List.drop_drop, show 1 + (j - 1) = j by omega] at this
theorem junk_far {bs : List UInt8} (h : Lib.index (bs.drop 1) begL < 0) : bs.length ≤ junkN bs + 11 := by
  have h1 := junk_begs bs
  rw [junk_starts h _ (junk_pos bs)] at h1
  unfold starts3 at h1
  simp only [Bool.and_eq_true, decide_eq_true_eq, List.length_drop] at h1
  omega
set_option maxRecDepth 100000 in
set_option maxHeartbeats 1000000 in
theorem frame_junk (A : Option Addr) (n c : Nat) (bs : List UInt8) (w : World) (h : Sl w A n c 1 (bcells bs)) (hn : bs.length = n) (hl : n ≤ 1000000) (h0 : bs ≠ []) (hctx : FCtx w) :
    Calls Tryd.prog 20 #[.slice A n c] w fun e w' => e = .returned (.int .i64 (junkN bs)) ∧ Below w.heap.size w w' := by
  have HS := Lib.hid h
  have hle := h.le
  have hcm := h.cap
  unfold maxLen at hcm
  have hpos : 0 < n := by rw [← hn]; exact List.length_pos_iff.2 h0
  obtain ⟨b, off, rfl⟩ : ∃ b off, A = some ⟨b, off, none⟩ := by
    rcases h.row with h' | ⟨b, off, e, _⟩
    · exact absurd (List.map_eq_nil_iff.1 h') h0
    · exact ⟨b, off, e⟩
  have hcut := h.cut 1 hpos
  rw [bcells_drop] at hcut
  have hB1 := (Below.refl w.heap.size w).alloc (Nat.le_refl _) (.cells (#[.int .u8 56, .int .u8 61, .int .u8 70, .int .u8 73, .int .u8 88, .int .u8 46, .int .u8 52, .int .u8 46, .int .u8 52, .int .u8 1, .int .u8 57, .int .u8 61]) 5 (12, 13))
  have kc := convBeg
  obtain ⟨g1, c1, hv1, hs1, _⟩ := (moBeg w w.heap.size (Nat.le_refl _)).sl
  injection hv1 with hv1 _ hv2
  injection hv1 with hv1
  injection hv1 with hv1 _ _
  subst hv1; subst hv2
  have hidx : Hid (Calls Tryd.prog 30 #[.slice (if c = 1 then some ⟨b, off, none⟩ else some ⟨b, off + 1, none⟩) (n - 1) (c - 1), .slice (some ⟨w.heap.size, 0, none⟩) 12 12] (w.alloc (.cells (#[.int .u8 56, .int .u8 61, .int .u8 70, .int .u8 73, .int .u8 88, .int .u8 46, .int .u8 52, .int .u8 46, .int .u8 52, .int .u8 1, .int .u8 57, .int .u8 61]) 5 (12, 13))) fun e w' => e = .returned (.int .i64 (Lib.index (bs.drop 1) begL)) ∧ Below w.heap.size w w') := by
    by_cases hc : c = 1
    · rw [if_pos hc]
      rw [if_pos hc] at hcut
      exact (bytesIndexBeg b off (n - 1) (c - 1) w.heap.size (bs.drop 1) _ (hcut.row.on hB1) (by rw [List.length_drop, hn]) (by omega) (by omega) hs1.row (hctx.on hB1)).mono fun e w' ⟨he, hb⟩ => ⟨he, hB1.trans (hb.mono (by simp))⟩
    · rw [if_neg hc]
      rw [if_neg hc, Option.map_some, addr_at] at hcut
      exact (bytesIndexBeg b (off + 1) (n - 1) (c - 1) w.heap.size (bs.drop 1) _ (hcut.row.on hB1) (by rw [List.length_drop, hn]) (by omega) (by omega) hs1.row (hctx.on hB1)).mono fun e w' ⟨he, hb⟩ => ⟨he, hB1.trans (hb.mono (by simp))⟩
  have Hi := Lib.hid (fun i => junk_of_index (bs := bs) (i := i))
  have Hs := Lib.hid (show Lib.index (bs.drop 1) begL < 0 → ∀ j, 1 ≤ j → begs (bs.drop j) = starts3 (bs.drop j) from junk_starts)
  have Hf := Lib.hid (show Lib.index (bs.drop 1) begL < 0 → bs.length ≤ junkN bs + 11 from junk_far)
  have Hg := Lib.hid (Lib.index_ge (bs.drop 1) begL)
  generalize Lib.index (bs.drop 1) begL = ix at *
  clear hcut hs1 h
  by_cases hc1 : c = 1
  · subst hc1
    obtain rfl : n = 1 := by omega
    rw [if_pos rfl, Nat.sub_self] at hidx
    go_enter Tryd.func20, Tryd.ntmps20
    go_wp2_with (fail)
    refine hidx.out.mono ?_
    rintro e w1 ⟨rfl, hb1⟩
    clear kc hB1 hidx
    by_cases hi : 0 ≤ ix
    · obtain ⟨i, rfl⟩ := Int.eq_ofNat_of_zero_le hi
      have Hj := Lib.hid (Hi.out i rfl)
      have hib : i ≤ 1000000 := by have := junk_len h0; have := Hj.out; omega
      clear Hi Hs Hf Hg
      go_wp2
      go_ret
      exact ⟨retI (by rw [Hj.out]; omega), hb1⟩
    · have hin : ix < 0 := by omega
      have Hs1 := Lib.hid (Hs.out hin)
      have Hf1 := Lib.hid (Hf.out hin)
      clear Hi Hs Hf Hg hi
      go_wp2
      go_loop [4] (fun v => ∃ k : Nat, v = .int .i64 k ∧ 1 ≤ k ∧ k ≤ bs.length ∧ Hid (k ≤ junkN bs)) (fun v => bs.length - (intOf v).toNat)
      case atStart =>
        have := Hf1.out
        have := junk_pos bs
        refine ⟨max 1 (bs.length - 11), ?_, by omega, by omega, Lib.hid (by omega)⟩
        congr 1; omega
      case round =>
        obtain ⟨k, rfl, hk1, hkn, Hk⟩ := hrel
        have hsl := HS.out.cut k (by omega)
        rw [bcells_drop] at hsl
        have Hb := Lib.hid (Hs1.out k hk1)
        obtain rfl : k = 1 := by omega
        have hdr : bs.drop 1 = [] := List.drop_eq_nil_of_le (by omega)
        rw [if_pos rfl, hdr, Nat.sub_self] at hsl
        have hst := Lib.hid (frame_starts _ _ _ _ w1 (hsl.on hb1) rfl)
        rw [show starts3 [] = true from rfl] at hst
        have Hj := Lib.hid (show junkN bs = 1 by have := junk_le hk1 (b := bs) (by rw [hdr]; rfl); have := Hk.out; omega)
        clear hdr Hb Hk hkn hk1 hsl
        go_wp2_with (fail)
        refine hst.out.mono ?_
        rintro e w' ⟨rfl, rfl⟩
        go_wp2
        go_ret
        exact ⟨retI (by rw [Hj.out]; rfl), hb1⟩
  · rw [if_neg hc1] at hidx
    go_enter Tryd.func20, Tryd.ntmps20
    go_wp2_with (fail)
    refine hidx.out.mono ?_
    rintro e w1 ⟨rfl, hb1⟩
    clear kc hB1 hidx
    by_cases hi : 0 ≤ ix
    · obtain ⟨i, rfl⟩ := Int.eq_ofNat_of_zero_le hi
      have Hj := Lib.hid (Hi.out i rfl)
      have hib : i ≤ 1000000 := by have := junk_len h0; have := Hj.out; omega
      clear Hi Hs Hf Hg
      go_wp2
      go_ret
      exact ⟨retI (by rw [Hj.out]; omega), hb1⟩
    · have hin : ix < 0 := by omega
      have Hs1 := Lib.hid (Hs.out hin)
      have Hf1 := Lib.hid (Hf.out hin)
      clear Hi Hs Hf Hg hi
      go_wp2
      go_loop [4] (fun v => ∃ k : Nat, v = .int .i64 k ∧ 1 ≤ k ∧ k ≤ bs.length ∧ Hid (k ≤ junkN bs)) (fun v => bs.length - (intOf v).toNat)
      case atStart =>
        have := Hf1.out
        have := junk_pos bs
        refine ⟨max 1 (bs.length - 11), ?_, by omega, by omega, Lib.hid (by omega)⟩
        congr 1; omega
      case round =>
        obtain ⟨k, rfl, hk1, hkn, Hk⟩ := hrel
        have hsl := HS.out.cut k (by omega)
        rw [bcells_drop] at hsl
        have Hb := Lib.hid (Hs1.out k hk1)
        by_cases hck : c = k
        · subst hck
          obtain rfl : c = n := by omega
          have hdr : bs.drop c = [] := List.drop_eq_nil_of_le (by omega)
          rw [if_pos rfl, hdr, Nat.sub_self] at hsl
          have hst := Lib.hid (frame_starts _ _ _ _ w1 (hsl.on hb1) rfl)
          rw [show starts3 [] = true from rfl] at hst
          have Hj := Lib.hid (show junkN bs = c by have := junk_le hk1 (b := bs) (by rw [hdr]; rfl); have := Hk.out; omega)
          clear hdr Hb Hk
          go_wp2_with (fail)
          refine hst.out.mono ?_
          rintro e w' ⟨rfl, rfl⟩
          go_wp2
          go_ret
          exact ⟨retI (by rw [Hj.out]), hb1⟩
        · rw [if_neg hck, Option.map_some, addr_at] at hsl
          have hst := Lib.hid (frame_starts _ _ _ _ w1 (hsl.on hb1) (by rw [List.length_drop]; omega))
          rcases hsb : starts3 (bs.drop k) with _ | _
          · rw [hsb] at hst Hb
            have hkn2 : k < bs.length := by
              rcases Nat.lt_or_ge k bs.length with h | h
              · exact h
              · rw [List.drop_eq_nil_of_le h] at hsb; cases hsb
            have Hk2 := Lib.hid (show k + 1 ≤ junkN bs by
              have h1 := Hk.out
              rcases Nat.lt_or_ge k (junkN bs) with h | h
              · omega
              · have : k = junkN bs := by omega
                have h2 := junk_begs bs
                rw [← this, Hb.out] at h2; cases h2)
            clear Hb Hk hsb
            go_wp2_with (fail)
            refine hst.out.mono ?_
            rintro e w' ⟨rfl, rfl⟩
            go_wp2
            go_round
            case rel => exact ⟨k + 1, by go_num, by omega, by omega, Hk2⟩
            case measure => simp [intOf]; omega
          · rw [hsb] at hst Hb
            have Hj := Lib.hid (show junkN bs = k by have := junk_le hk1 (b := bs) Hb.out; have := Hk.out; omega)
            clear Hb Hk hsb
            go_wp2_with (fail)
            refine hst.out.mono ?_
            rintro e w' ⟨rfl, rfl⟩
            go_wp2
            go_ret
            exact ⟨retI (by rw [Hj.out]), hb1⟩
end Go.Proofs.YtacaipnjedfdoaaDoor
