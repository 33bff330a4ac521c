/-
  Layer 8: the document's own way: a record's bytes: its contract.
-/
import Derived.Test.YtaimciblkimgkaaCrcRef
import Derived.Test.YtaimciblkimgkaaMo
namespace Go.Proofs.Ytaimciblkimgkaa
open Go.RowKit

theorem infoB8 : (Try.prog.info? 5).map (fun i => (i.zero, i.size, i.bytes)) = some (some (.int .u8 0), 1, 1) := by kernel_rfl
theorem bcells_one8 (l : List UInt8) : ∀ u ∈ bcells l, u.oneCell' = true := by
  intro u hu
  unfold bcells at hu
  obtain ⟨c, _, rfl⟩ := List.mem_map.1 hu
  rfl
/-- What Put answers: nil and ErrArg, or a record's bytes. -/
def putE (r : List UInt8) : Int := if r.length = 0 ∨ 4096 < r.length then 1 else 0
def putV (r : List UInt8) : List UInt8 := if r.length = 0 ∨ 4096 < r.length then [] else putC r
def PutPost8 (r : List UInt8) (w : World) (e : Ending) (w' : World) : Prop :=
  ∃ A m c, e = .returned (.tuple #[.slice A m c, .int .i64 (putE r)]) ∧ (putV r).length = m ∧ Sl w' A m c 1 (bcells (putV r)) ∧ Below w.heap.size w w'
theorem cells_be2 {n : Nat} (h : n ≤ 4096) : bcells (be2 n) = [.int .u8 ((n : Int) / 256), .int .u8 ((n : Int) % 256)] := by
  show [Value.int .u8 ((UInt8.ofNat (n / 256)).toNat : Nat), Value.int .u8 ((UInt8.ofNat (n % 256)).toNat : Nat)] = _
  rw [u8_nat (by omega), u8_nat (by omega), show ((n / 256 : Nat) : Int) = (n : Int) / 256 by omega, show ((n % 256 : Nat) : Int) = (n : Int) % 256 by omega]
theorem cells_be4 {s : Nat} (h : s < 4294967296) : bcells (be4 s) = [.int .u8 ((s : Int) / 16777216), .int .u8 ((s : Int) / 65536 % 256), .int .u8 ((s : Int) / 256 % 256), .int .u8 ((s : Int) % 256)] := by
  show [Value.int .u8 ((UInt8.ofNat (s / 16777216)).toNat : Nat), Value.int .u8 ((UInt8.ofNat (s / 65536 % 256)).toNat : Nat), Value.int .u8 ((UInt8.ofNat (s / 256 % 256)).toNat : Nat), Value.int .u8 ((UInt8.ofNat (s % 256)).toNat : Nat)] = _
  rw [u8_nat (by omega), u8_nat (by omega), u8_nat (by omega), u8_nat (by omega), show ((s / 16777216 : Nat) : Int) = (s : Int) / 16777216 by omega, show ((s / 65536 % 256 : Nat) : Int) = (s : Int) / 65536 % 256 by omega, show ((s / 256 % 256 : Nat) : Int) = (s : Int) / 256 % 256 by omega, show ((s % 256 : Nat) : Int) = (s : Int) % 256 by omega]
set_option maxRecDepth 100000 in
set_option maxHeartbeats 1000000 in
theorem ref_Put8 (A : Option Addr) (n c : Nat) (r : List UInt8) (hl : r.length = n) (W : World) (h : Sl W A n c 1 (bcells r)) (hn : n ≤ 1000000) :
    Calls Try.prog 9 #[.slice A n c] W (PutPost8 r W) := by
  have HS := Lib.hid h
  have Hl := Lib.hid hl
  clear h
  by_cases hb : n = 0 ∨ 4096 < n
  · have HE := Lib.hid (show putE r = 1 ∧ putV r = [] from ⟨if_pos (by rw [hl]; exact hb), if_pos (by rw [hl]; exact hb)⟩)
    clear hl
    by_cases h0 : n = 0
    · subst h0
      go_enter Try.func9, Try.ntmps9
      go_wp2
      go_ret2
      exact ⟨none, 0, 0, by rw [HE.out.1]; rfl, by rw [HE.out.2]; rfl, by rw [HE.out.2]; exact Sl.none_ _ _, Below.refl _ _⟩
    · have h1 : (4096 : Int) < (n : Int) := by omega
      have h0b : ((n : Int) == 0) = false := by rw [beq_eq_false_iff_ne]; omega
      clear hb h0
      go_enter Try.func9, Try.ntmps9
      go_wp2
      go_ret2
      exact ⟨none, 0, 0, by rw [HE.out.1]; rfl, by rw [HE.out.2]; rfl, by rw [HE.out.2]; exact Sl.none_ _ _, Below.refl _ _⟩
  · have HE := Lib.hid (show putE r = 0 ∧ putV r = putC r from ⟨if_neg (by rw [hl]; exact hb), if_neg (by rw [hl]; exact hb)⟩)
    have h0b : ((n : Int) == 0) = false := by rw [beq_eq_false_iff_ne]; omega
    have h1b : ¬ (4096 : Int) < (n : Int) := by omega
    have hn0 : (0 : Int) ≤ (n : Int) := by omega
    have hn1 : (n : Int) ≤ 4096 := by omega
    clear hb hl
    go_enter Try.func9, Try.ntmps9
    go_upto_region 5 with (fail)
    have hn4 : n ≤ 4096 := by omega
    have moL := Mo.of_block (w := W.alloc (.cells #[.int .u8 ((n : Int) / 256), .int .u8 ((n : Int) % 256)] 5)) (base := W.heap.size) (cap := 2) (n := 2) (xs := bcells (be2 n)) (Nat.le_refl _) (heap_alloc_new W _) (.inl rfl) rfl (by rw [cells_be2 hn4]; rfl) (Nat.le_refl _) (by decide)
    have hB1 : Below W.heap.size W (W.alloc (.cells #[.int .u8 ((n : Int) / 256), .int .u8 ((n : Int) % 256)] 5)) := (Below.refl _ _).alloc (Nat.le_refl _) _
    obtain ⟨i0, hi, iz0, iz1, iz2⟩ := info_parts infoB8
    generalize W.alloc (.cells #[.int .u8 ((n : Int) / 256), .int .u8 ((n : Int) % 256)] 5) = W1 at *
    have HS1 := Lib.hid (HS.out.on hB1)
    have slL := moL.sl
    obtain ⟨gL, cL, hvL, slL, -, -⟩ := moL.sl
    injection hvL with hvL1 _ hvL2
    injection hvL1 with hvL1
    injection hvL1 with hvL1 _ _
    subst hvL1; subst hvL2
    have moE := Mo.of_block (w := W1.alloc (.cells #[] 5)) (base := W1.heap.size) (cap := 0) (n := 0) (xs := []) (Nat.le_refl _) (heap_alloc_new W1 _) (.inl rfl) rfl rfl (Nat.le_refl _) (by decide)
    have hE1 : Below W1.heap.size W1 (W1.alloc (.cells #[] 5)) := (Below.refl _ _).alloc (Nat.le_refl _) _
    go_wp2_with (at_builtin; refine wpList_append_mo rfl (.tmp 23) (.tmp 24) 22 rfl W1.heap.size 5 i0 Try.underlying22 hi iz0 iz1 iz2 _ _ _ rfl moE (some ⟨W.heap.size, 0, none⟩) 2 2 (bcells (be2 n)) rfl (slL.on hE1) (bcells_one8 _) (by decide) (by decide) (by simp) ?_)
    intro v1 w1 mo1 hg1 _
    have hE2 := moE.below hE1 hg1 (by simp) (Nat.le_refl _)
    have hz1 := hg1.size
    simp only [World.size_alloc] at hz1
    have mo1 := mo1.cast (ys := bcells (be2 n)) (m := 2) (by simp) (by omega)
    clear hg1 moE hE1
    go_wp2_with (at_builtin; refine wpList_append_mo rfl (.tmp 25) (.tmp 26) 22 rfl W1.heap.size 5 i0 Try.underlying22 hi iz0 iz1 iz2 _ _ _ rfl mo1 A n c (bcells r) rfl (HS1.out.on hE2) (bcells_one8 _) (by unfold maxLen; omega) (by omega) (by omega) ?_)
    intro v2 w2 mo2 hg2 _
    have hE3 := mo1.below hE2 hg2 (by omega) (Nat.le_refl _)
    have hz2 := hg2.size
    obtain ⟨g2, c2, rfl, sl2, -, -⟩ := mo2.sl
    have HSm := Lib.hid (ref_Sum8 (some ⟨g2, 0, none⟩) (2 + n) c2 (be2 n ++ r) (by rw [List.length_append, Hl.out]; rfl) w2 (by rw [bcells_app]; exact sl2) (by omega))
    have hs1 := sumC_lt (be2 n ++ r)
    have Hsum := Lib.hid (show recSum r = sumC (be2 n ++ r) from by unfold recSum; rw [Hl.out])
    have hc4 := cells_be4 hs1
    clear hg2 mo1 mo2 sl2 hE2
    generalize sumC (be2 n ++ r) = s at *
    have hs2 : (s : Int) ≤ 4294967295 := by omega
    have hs0 : (0 : Int) ≤ (s : Int) := by omega
    go_wp2_with fail
    refine HSm.out.mono ?_
    rintro e w3 ⟨rfl, hb3⟩
    have hE4 := hE3.trans (hb3.mono hE3.size)
    have moL3 := moL.on hE4
    have HS3 := Lib.hid (HS1.out.on hE4)
    have hB3 := hB1.trans (hE4.mono hB1.size)
    have hz3 := hE4.size
    have hz0 := hB1.size
    clear HSm hE3 hb3 moL slL HS1 hE4
    go_wp2_with (at_builtin; refine wpList_append_mo rfl (.tmp 29) (.tmp 44) 22 rfl W.heap.size 5 i0 Try.underlying22 hi iz0 iz1 iz2 _ _ _ rfl (moL3.alloc _) (some ⟨w3.heap.size, 0, none⟩) 4 4 (bcells (be4 s)) rfl (sl_new w3 _ 4 _ _ rfl (by rw [hc4]) (by decide)) (bcells_one8 _) (by decide) (by decide) (by simp; omega) ?_)
    intro v5 w5 mo5 hg5 _
    have hE5 := (moL3.alloc _).below (hB3.alloc (by omega) _) hg5 (by simp; omega) (Nat.le_refl _)
    have hz5 := hg5.size
    simp only [World.size_alloc] at hz5
    clear hg5 moL3
    go_wp2_with (at_builtin; refine wpList_append_mo rfl (.tmp 46) (.tmp 47) 22 rfl W.heap.size 5 i0 Try.underlying22 hi iz0 iz1 iz2 _ _ _ rfl mo5 A n c (bcells r) rfl (HS.out.on hE5) (bcells_one8 _) (by unfold maxLen; omega) (by omega) (by omega) ?_)
    intro v6 w6 mo6 hg6 _
    have hE6 := mo5.below hE5 hg6 (by omega) (Nat.le_refl _)
    clear hg6 mo5
    obtain ⟨g6, c6, rfl, sl6, -, -⟩ := mo6.sl
    go_wp2
    go_ret2
    refine ⟨_, _, c6, by rw [HE.out.1]; rfl, ?_, ?_, hE6⟩
    · rw [HE.out.2, putC_len, Hl.out]; omega
    · rw [HE.out.2]
      unfold putC
      rw [Hsum.out, Hl.out, bcells_app, bcells_app, hc4]
      exact sl6
end Go.Proofs.Ytaimciblkimgkaa
