/-
  Layer 8: the program's own records: rightSize, number, Put: their contracts.
-/
import Derived.Test.YtaimciblkimgkaaCrcSum
namespace Go.Proofs.Ytaimciblkimgkaa
open Go.RowKit

def sizeOk (n : Nat) : Bool := decide (1 ≤ n ∧ n ≤ 4096)
theorem own_rightSize (n : Nat) (hn : n ≤ 9223372036854775807) (w : World) : Calls Try.prog 17 #[.int .i64 (n : Nat)] w fun e w' => e = .returned (.bool (sizeOk n)) ∧ w' = w := by
  by_cases h1 : 1 ≤ n
  · by_cases h2 : n ≤ 4096
    · have h1i : (1 : Int) ≤ (n : Int) := by omega
      have h2i : (n : Int) ≤ 4096 := by omega
      have HE := Lib.hid (show sizeOk n = true from decide_eq_true ⟨h1, h2⟩)
      go_enter Try.func17, Try.ntmps17
      go_wp2
      go_ret
      exact ⟨by rw [HE.out]; rfl, rfl⟩
    · have h1i : (1 : Int) ≤ (n : Int) := by omega
      have h2i : ¬ (n : Int) ≤ 4096 := by omega
      have HE := Lib.hid (show sizeOk n = false from decide_eq_false (by omega))
      go_enter Try.func17, Try.ntmps17
      go_wp2
      go_ret
      exact ⟨by rw [HE.out]; rfl, rfl⟩
  · have h1i : ¬ (1 : Int) ≤ (n : Int) := by omega
    have HE := Lib.hid (show sizeOk n = false from decide_eq_false (by omega))
    go_enter Try.func17, Try.ntmps17
    go_wp2
    go_ret
    exact ⟨by rw [HE.out]; rfl, rfl⟩
/-- Bytes as a number, the highest first. -/
def numB (l : List UInt8) : Nat := l.foldl (fun a c => a * 256 + c.toNat) 0
theorem numB_take {l : List UInt8} {k : Nat} (h : k < l.length) : numB (l.take (k + 1)) = numB (l.take k) * 256 + l[k].toNat := by
  unfold numB
  rw [List.take_succ_eq_append_getElem h, List.foldl_append]
  rfl
theorem numB_lt : ∀ (l : List UInt8) (k : Nat), k ≤ l.length → numB (l.take k) < 256 ^ k
  | l, 0, _ => by simp [numB]
  | l, k + 1, h => by
    have := numB_lt l k (by omega)
    have hc := UInt8.toNat_lt l[k]
    rw [numB_take (by omega), Nat.pow_succ]
    omega
theorem u32_or_byte {a c : Nat} (ha : a < 16777216) (hc : c < 256) : bits .or .u32 ((a : Int) * 256) (c : Int) = ((a * 256 + c : Nat) : Int) := by
  rw [show (a : Int) * 256 = ((a * 256 : Nat) : Int) by omega, u32_or_nat _ _ (by omega) (by omega)]
  have h := Nat.two_pow_add_eq_or_of_lt (i := 8) (b := c) (by omega) a
  rw [show 2 ^ 8 * a = a * 256 by omega] at h
  rw [h]
set_option maxRecDepth 100000 in
set_option maxHeartbeats 1000000 in
theorem own_number (A : Option Addr) (n c : Nat) (l : List UInt8) (hl : l.length = n) (hn : n ≤ 4) (w : World) (h : Sl w A n c 1 (bcells l)) :
    Calls Try.prog 20 #[.slice A n c] w fun e w' => e = .returned (.int .u32 (numB l : Nat)) ∧ w' = w := by
  have HS := Lib.hid h
  have Hl := Lib.hid hl
  have hcap : c ≤ 9223372036854775807 := by have := h.cap; unfold maxLen at this; omega
  have hnc := h.le
  clear h hl
  go_enter Try.func20, Try.ntmps20
  go_wp2
  go_loopw [3, 8] (fun s3 s8 wr => wr = w ∧ ∃ i : Nat, i ≤ n ∧ s8 = .int .i64 (i : Nat) ∧ s3 = .int .u32 (numB (l.take i) : Nat)) (fun _ s8 _ => n - (intOf s8).toNat)
  case atStart => exact ⟨rfl, 0, by omega, rfl, rfl⟩
  case round =>
    obtain ⟨hw, i, hi, rfl, rfl⟩ := hrel
    subst wr
    by_cases hlt : i < n
    · have hil : i < l.length := by rw [Hl.out]; exact hlt
      obtain ⟨b, off, rfl, hbc⟩ := HS.out.row.byte hil
      have HT := Lib.hid (numB_take hil)
      have hlt1 : numB (l.take i) < 16777216 := by
        have := numB_lt l i (by omega)
        have : (256 : Nat) ^ i ≤ 256 ^ 3 := Nat.pow_le_pow_right (by decide) (by omega)
        omega
      have hcl := UInt8.toNat_lt l[i]
      generalize numB (l.take i) = a at *
      generalize l[i].toNat = x at *
      have hor := u32_or_byte hlt1 (show x < 256 by omega)
      have hai : (a : Int) ≤ 16777215 := by omega
      have ha0 : (0 : Int) ≤ (a : Int) := by omega
      go_wp2
      go_roundw
      case rel => exact ⟨by first | rfl | trivial, i + 1, by omega, by go_num, by rw [HT.out]; go_num⟩
      case measure => simp [intOf]; omega
    · obtain rfl : i = n := by omega
      have HF := Lib.hid (show numB (l.take i) = numB l from by rw [List.take_of_length_le (Nat.le_of_eq Hl.out)])
      rw [HF.out]
      go_wp2
      go_ret
      exact ⟨rfl, rfl⟩
set_option maxRecDepth 100000 in
set_option maxHeartbeats 1000000 in
theorem own_Put8 (A : Option Addr) (n c : Nat) (r : List UInt8) (W : World) (hl : r.length = n) (hn : n ≤ 6000) (h : Sl W A n c 1 (bcells r)) :
    Calls Try.prog 8 #[.slice A n c] W fun e W' => ∃ v, e = .returned (.tuple #[v, .int .i64 (putE r)]) ∧ Moz8 W' W.heap.size v (putV r).length (bcells (putV r)) ∧ Below W.heap.size W W' := by
  have hnc := h.le
  have hcap : c ≤ 9223372036854775807 := by have := h.cap; unfold maxLen at this; omega
  have HS := Lib.hid h
  have Hr := Lib.hid (own_rightSize n (by omega))
  clear h
  by_cases hb : n = 0 ∨ 4096 < n
  · have HE := Lib.hid (show putE r = 1 ∧ putV r = [] from ⟨if_pos (by rw [hl]; exact hb), if_pos (by rw [hl]; exact hb)⟩)
    have HO := Lib.hid (show sizeOk n = false from decide_eq_false (by omega))
    clear hl
    go_enter Try.func8, Try.ntmps8
    go_wp2_with fail
    refine (Hr.out _).mono ?_
    rintro e w1 ⟨rfl, hw⟩
    subst w1
    rw [HO.out]
    go_wp2
    go_ret2
    exact ⟨_, by rw [HE.out.1]; rfl, .inl ⟨rfl, by rw [HE.out.2]; rfl, by rw [HE.out.2]; rfl⟩, Below.refl _ _⟩
  · have HE := Lib.hid (show putE r = 0 ∧ putV r = putC r from ⟨if_neg (by rw [hl]; exact hb), if_neg (by rw [hl]; exact hb)⟩)
    have HO := Lib.hid (show sizeOk n = true from decide_eq_true (by omega))
    have hn1 : 1 ≤ n := by omega
    have hn4 : n ≤ 4096 := by omega
    have Hl := Lib.hid hl
    clear hb hl
    go_enter Try.func8, Try.ntmps8
    go_wp2_with fail
    refine (Hr.out _).mono ?_
    rintro e w1 ⟨rfl, hw⟩
    subst w1
    rw [HO.out]
    have hB1 := (Below.refl W.heap.size W).alloc (Nat.le_refl _) (.cells #[.int .u8 ((n : Int) / 256), .int .u8 ((n : Int) % 256)] 5)
    have s1 := sl_new W #[.int .u8 ((n : Int) / 256), .int .u8 ((n : Int) % 256)] 2 5 (bcells (be2 n)) rfl (by rw [cells_be2 hn4]) (by decide)
    have HS1 := HS.out.on hB1
    go_upto_region 4 with (fail)
    generalize W.alloc (.cells #[.int .u8 ((n : Int) / 256), .int .u8 ((n : Int) % 256)] 5) = W1 at *
    have hB2' := (Below.refl W1.heap.size W1).alloc (Nat.le_refl _) (.cells #[.slice (some ⟨W.heap.size, 0, none⟩) 2 2, .slice A n c] 22)
    have hB2 := hB1.trans (hB2'.mono hB1.size)
    have s2 := s1.on hB2'
    have HS2 := HS1.on hB2'
    have Hsm := Lib.hid (own_sumOf W1.heap.size 0 2 [⟨some ⟨W.heap.size, 0, none⟩, 2, 2, be2 n⟩, ⟨A, n, c, r⟩] _ (.cons s2 (.cons HS2 (Pts.nil _))) (parts_row (w := W1) (cs := #[.slice (some ⟨W.heap.size, 0, none⟩) 2 2, .slice A n c]) (t := 22) rfl) rfl (by decide) (.cons (by decide) (.cons (by omega) .nil)))
    rw [show joined [⟨some ⟨W.heap.size, 0, none⟩, 2, 2, be2 n⟩, ⟨A, n, c, r⟩] = be2 n ++ r from by simp [joined]] at Hsm
    generalize hW2 : W1.alloc (.cells #[.slice (some ⟨W.heap.size, 0, none⟩) 2 2, .slice A n c] 22) = W2 at *
    go_wp2_with fail
    refine Hsm.out.mono ?_
    rintro e w3 ⟨rfl, hb3⟩
    have hs1 := sumC_lt (be2 n ++ r)
    have Hsum := Lib.hid (show recSum r = sumC (be2 n ++ r) from by unfold recSum; rw [Hl.out])
    have hc4 := cells_be4 hs1
    have hB3 := hB2.trans (hb3.mono hB2.size)
    have s3 := s2.on hb3
    have HS3 := HS2.on hb3
    clear Hsm HS1 HS2 s1 s2 hb3 hB2' hB1 hW2
    generalize sumC (be2 n ++ r) = s at *
    have hs2 : (s : Int) ≤ 4294967295 := by omega
    have hs0 : (0 : Int) ≤ (s : Int) := by omega
    have hB4' := (Below.refl w3.heap.size w3).alloc (Nat.le_refl _) (.cells #[.int .u8 ((s : Int) / 16777216), .int .u8 ((s : Int) / 65536 % 256), .int .u8 ((s : Int) / 256 % 256), .int .u8 ((s : Int) % 256)] 5)
    have s4 := sl_new w3 #[.int .u8 ((s : Int) / 16777216), .int .u8 ((s : Int) / 65536 % 256), .int .u8 ((s : Int) / 256 % 256), .int .u8 ((s : Int) % 256)] 4 5 (bcells (be4 s)) rfl (by rw [hc4]) (by decide)
    have hz4 : (w3.alloc (.cells #[.int .u8 ((s : Int) / 16777216), .int .u8 ((s : Int) / 65536 % 256), .int .u8 ((s : Int) / 256 % 256), .int .u8 ((s : Int) % 256)] 5)).heap.size = w3.heap.size + 1 := World.size_alloc ..
    have s3a := s3.on hB4'
    have HS3a := HS3.on hB4'
    have hcc := own_concat w3.heap.size.succ 0 3 [⟨some ⟨W.heap.size, 0, none⟩, 2, 2, be2 n⟩, ⟨some ⟨w3.heap.size, 0, none⟩, 4, 4, be4 s⟩, ⟨A, n, c, r⟩]
    have hB5' := (Below.refl _ (w3.alloc (.cells #[.int .u8 ((s : Int) / 16777216), .int .u8 ((s : Int) / 65536 % 256), .int .u8 ((s : Int) / 256 % 256), .int .u8 ((s : Int) % 256)] 5))).alloc (Nat.le_refl _) (.cells #[.slice (some ⟨W.heap.size, 0, none⟩) 2 2, .slice (some ⟨w3.heap.size, 0, none⟩) 4 4, .slice A n c] 22)
    have hrow := parts_row (w := w3.alloc (.cells #[.int .u8 ((s : Int) / 16777216), .int .u8 ((s : Int) / 65536 % 256), .int .u8 ((s : Int) / 256 % 256), .int .u8 ((s : Int) % 256)] 5)) (ps := [⟨some ⟨W.heap.size, 0, none⟩, 2, 2, be2 n⟩, ⟨some ⟨w3.heap.size, 0, none⟩, 4, 4, be4 s⟩, ⟨A, n, c, r⟩]) (cs := #[.slice (some ⟨W.heap.size, 0, none⟩) 2 2, .slice (some ⟨w3.heap.size, 0, none⟩) 4 4, .slice A n c]) (t := 22) rfl
    rw [hz4] at hrow
    have hB5 := (hB3.trans (hB4'.mono hB3.size)).trans (hB5'.mono (by rw [hz4]; have := hB3.size; omega))
    have Hcc := Lib.hid ((hcc _ (.cons (s3a.on hB5') (.cons (s4.on hB5') (.cons (HS3a.on hB5') (Pts.nil _)))) hrow rfl (by decide) (by show 2 + (4 + (n + 0)) ≤ 2000000; omega)).mono fun e w' ⟨v, he, hw, hb⟩ => (show ∃ v, e = Ending.returned v ∧ Mo w' W.heap.size v (n + 6) (bcells (putC r)) ∧ Below W.heap.size W w' from by
      have hn6 : sizeL [⟨some ⟨W.heap.size, 0, none⟩, 2, 2, be2 n⟩, ⟨some ⟨w3.heap.size, 0, none⟩, 4, 4, be4 s⟩, ⟨A, n, c, r⟩] = n + 6 := by show 2 + (4 + (n + 0)) = n + 6; omega
      have hj : joined [⟨some ⟨W.heap.size, 0, none⟩, 2, 2, be2 n⟩, ⟨some ⟨w3.heap.size, 0, none⟩, 4, 4, be4 s⟩, ⟨A, n, c, r⟩] = putC r := by
        unfold putC
        rw [Hsum.out, Hl.out]
        simp [joined]
      rw [hn6, hj] at hw
      exact ⟨v, he, (Mo.of_own hw (by omega)).base_le (by have := hB5.size; omega), hB5.trans (hb.mono hB5.size)⟩))
    clear hrow hcc s3a HS3a hB4' hB5' hz4 s3 HS3 s4 hc4
    go_wp2_with fail
    refine Hcc.out.mono ?_
    rintro e w5 ⟨v, rfl, hmo, hb5⟩
    clear Hcc
    go_wp2
    go_ret2
    exact ⟨_, by rw [HE.out.1]; rfl, .inr (by rw [HE.out.2, putC_len, Hl.out]; exact hmo), hb5⟩
end Go.Proofs.Ytaimciblkimgkaa
