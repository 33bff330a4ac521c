/-
  Layer 6's laws: ReseqRoom.
-/
import Derived.Test.YtagehacnpdlpnaaLaw06
namespace Go.Proofs.Ytagehacnpdlpnaa
open Go.RowKit

def roomC (k : Int) (h : Nat) : List Value := icells ((seqN (k + 1) h).map sg)
def zL : Array Value := #[.int .i64 0, .slice none 0 0]
section
variable {k : Int} (hk : 1 ≤ k ∧ k ≤ 1000000)
include hk
theorem room_keep_at (i : Nat) (hi : i < 64) (A : Option Addr) (c : Nat) (V : World) (h : Sl V A i c 20 (roomC k i)) :
    Calls Try.prog 7 #[.agg #[.int .i64 k, .slice A i c], .agg #[.int .i64 (k + 1 + (i : Int)), .int .i64 (k + 1 + (i : Int) + 1), .int .i64 0, .int .i64 0, .int .i64 0, .bool false, .int .i64 0, .int .i64 0, .bool false, .string ⟨#[]⟩, .string ⟨#[]⟩, .string ⟨#[]⟩, .string ⟨#[]⟩, .string ⟨#[]⟩, .string ⟨#[]⟩, .int .i64 0, .bool false, .int .i64 0, .int .i64 0, .int .i64 0]] V (fun e w' => ∃ A' c' B d, e = .returned (.tuple #[.agg #[.int .i64 k, .slice A' (i + 1) c'], .slice B 0 d, .int .i64 2]) ∧ Sl w' A' (i + 1) c' 20 (roomC k (i + 1)) ∧ Below V.heap.size V w') :=
  (come_at k (k + 1 + (i : Int)) _ (seqN (k + 1) i) A i c (seqN_len _ _) rfl V h (by omega)).mono fun e w' hp => by
    obtain ⟨A', c', B, d, he, h1, _, h3⟩ := ComePost.num (out := []) (room_keep hk hi) hp
    rw [seqN_len] at he h1
    exact ⟨A', c', B, d, he, h1, h3⟩
theorem room_full_at (i : Nat) (hi : 64 ≤ i) (hi2 : i < 1000000) (A : Option Addr) (c : Nat) (V : World) (h : Sl V A 64 c 20 (roomC k 64)) :
    Calls Try.prog 7 #[.agg #[.int .i64 k, .slice A 64 c], .agg #[.int .i64 (k + 1 + (i : Int)), .int .i64 (k + 1 + (i : Int) + 1), .int .i64 0, .int .i64 0, .int .i64 0, .bool false, .int .i64 0, .int .i64 0, .bool false, .string ⟨#[]⟩, .string ⟨#[]⟩, .string ⟨#[]⟩, .string ⟨#[]⟩, .string ⟨#[]⟩, .string ⟨#[]⟩, .int .i64 0, .bool false, .int .i64 0, .int .i64 0, .int .i64 0]] V (fun e w' => ∃ A' c' B d, e = .returned (.tuple #[.agg #[.int .i64 k, .slice A' 64 c'], .slice B 0 d, .int .i64 4]) ∧ Sl w' A' 64 c' 20 (roomC k 64) ∧ Below V.heap.size V w') :=
  (come_at k (k + 1 + (i : Int)) _ (seqN (k + 1) 64) A 64 c (seqN_len _ _) rfl V h (by omega)).mono fun e w' hp => by
    obtain ⟨A', c', B, d, he, h1, _, h3⟩ := ComePost.num (out := []) (room_full hk hi hi2) hp
    rw [seqN_len] at he h1
    exact ⟨A', c', B, d, he, h1, h3⟩
theorem room_join_at (h : Nat) (hh : h ≤ 64) (A : Option Addr) (c : Nat) (V : World) (hs : Sl V A h c 20 (roomC k h)) :
    Calls Try.prog 7 #[.agg #[.int .i64 k, .slice A h c], .agg #[.int .i64 k, .int .i64 (k + 1), .int .i64 0, .int .i64 0, .int .i64 0, .bool false, .int .i64 0, .int .i64 0, .bool false, .string ⟨#[]⟩, .string ⟨#[]⟩, .string ⟨#[]⟩, .string ⟨#[]⟩, .string ⟨#[]⟩, .string ⟨#[]⟩, .int .i64 0, .bool false, .int .i64 0, .int .i64 0, .int .i64 0]] V (fun e w' => ∃ A' c' B d, e = .returned (.tuple #[.agg #[.int .i64 (k + 1 + (h : Int)), .slice A' 0 c'], .slice B (h + 1) d, .int .i64 1]) ∧ h + 1 ≤ d ∧ c' ≤ maxLen ∧ d ≤ maxLen ∧ Below V.heap.size V w') :=
  (come_at k k _ (seqN (k + 1) h) A h c (seqN_len _ _) rfl V hs (by omega)).mono fun e w' hp => by
    obtain ⟨A', c', B, d, he, h1, h2, h3⟩ := ComePost.num (room_join hk hh) hp
    rw [List.length_cons, seqN_len] at he h2
    exact ⟨A', c', B, d, he, h2.le, h1.cap, h2.cap, h3⟩
theorem room_back_at (h : Nat) (hh : h ≤ 64) (A : Option Addr) (c : Nat) (V : World) (hs : Sl V A h c 20 (roomC k h)) :
    Calls Try.prog 7 #[.agg #[.int .i64 k, .slice A h c], .agg #[.int .i64 (k - 1), .int .i64 k, .int .i64 0, .int .i64 0, .int .i64 0, .bool false, .int .i64 0, .int .i64 0, .bool false, .string ⟨#[]⟩, .string ⟨#[]⟩, .string ⟨#[]⟩, .string ⟨#[]⟩, .string ⟨#[]⟩, .string ⟨#[]⟩, .int .i64 0, .bool false, .int .i64 0, .int .i64 0, .int .i64 0]] V (fun e w' => ∃ A' c' B d, e = .returned (.tuple #[.agg #[.int .i64 k, .slice A' h c'], .slice B 0 d, .int .i64 (if k = 1 then 0 else 3)]) ∧ Sl w' A' h c' 20 (roomC k h) ∧ Below V.heap.size V w') :=
  (come_at k (k - 1) _ (seqN (k + 1) h) A h c (seqN_len _ _) (by omega) V hs (by omega)).mono fun e w' hp => by
    by_cases h1 : k = 1
    · subst h1
      obtain ⟨A', c', B, d, he, h1, _, h3⟩ := ComePost.num (out := []) (room_none (h := h)) hp
      rw [seqN_len] at he h1
      exact ⟨A', c', B, d, he, h1, h3⟩
    · obtain ⟨A', c', B, d, he, h2, _, h3⟩ := ComePost.num (out := []) (room_old (h := h) ⟨by omega, hk.2⟩ hh) hp
      rw [seqN_len] at he h2
      rw [if_neg h1]
      exact ⟨A', c', B, d, he, h2, h3⟩
end
set_option maxRecDepth 100000 in
set_option maxHeartbeats 2000000 in
theorem walk_ReseqRoom (a0 : Int) (l0 : 0 ≤ a0) (u0 : a0 ≤ 65535) (a1 : Int) (l1 : 0 ≤ a1) (u1 : a1 ≤ 255) (a2 : Bool) (W : World) (_ : True) :
    Calls Try.prog 5 #[.int .u16 a0, .int .u8 a1, .bool a2] W fun e W' => e = .returned (.bool true) ∧ Below W.heap.size W W' := by
  obtain ⟨k, rfl⟩ : ∃ k, a0 = k - 1 := ⟨a0 + 1, by omega⟩
  obtain ⟨m, rfl⟩ := Int.eq_ofNat_of_zero_le l1
  have hk1 : 1 ≤ k := by omega
  have hk2 : k ≤ 65536 := by omega
  have hm : m ≤ 255 := by omega
  have HA := Lib.hid (awake06 W)
  have HKp := Lib.hid (room_keep_at (k := k) ⟨hk1, by omega⟩)
  have HFl := Lib.hid (room_full_at (k := k) ⟨hk1, by omega⟩)
  have HJn := Lib.hid (room_join_at (k := k) ⟨hk1, by omega⟩)
  have HBk := Lib.hid (room_back_at (k := k) ⟨hk1, by omega⟩)
  clear u0 u1 l1
  go_enter Try.func5, Try.ntmps5
  go_wp2_with fail
  refine HA.out.mono ?_
  rintro e w1 ⟨rfl, hb1⟩
  have HB := Lib.hid hb1
  have HI := Lib.hid ((RI.start w1).add 26 zL)
  clear hb1 HA
  go_upto_region 4 with (first | (refine ri_put rfl 26 (.tmp 7) (.tmp 26) rfl #[.int .i64 k, .slice none 0 0] rfl rfl HI.out rfl infoL (by simp [Value.oneCell']) ?_; rintro w2 hI2 -; have HI := Lib.hid hI2; clear hI2))
  have hl0 := (HI.out.cell 0).trans (show _ = some (.int .i64 k) from rfl)
  have HB0 := Lib.hid HB.out
  have HBW := Lib.hid (HB.out.trans (HI.out.below.mono HB.out.size))
  clear HB
  go_upto_region 5 with (fail)
  have HS := Lib.hid (show Sl w2 none 0 0 20 (roomC k 0) from Sl.none_ w2 20)
  clear hl0
  go_wp2_with fail
  go_loopw [9] (fun s9 wr => ∃ (i h : Nat) (A : Option Addr) (c : Nat), i ≤ m ∧ s9 = .int .i64 (i : Nat) ∧ h ≤ 64 ∧ Hid (h = min i 64) ∧ Hid (RI w1 [(w1.heap.size, 26, #[.int .i64 k, .slice A h c])] wr) ∧ Hid (Sl wr A h c 20 (roomC k h)) ∧ Hid (Below W.heap.size W wr)) (fun s9 _ => m - (intOf s9).toNat)
  case atStart => exact ⟨0, 0, none, 0, Nat.zero_le _, rfl, Nat.zero_le _, Lib.hid (by simp), HI, HS, HBW⟩
  case round =>
    clear HI HS HBW
    obtain ⟨i, h, A, c, him, rfl, hh64, Hh, HI, HS, HBW⟩ := hrel
    by_cases hlt : i < m
    · by_cases h64 : i < 64
      · obtain rfl : h = i := by have := Hh.out; omega
        clear Hh
        go_wp2_with (first | (refine wpList_load_row rfl 26 (.tmp 7) rfl _ rfl 26 _ (0, 0) _ HI.out.bx Try.underlying26 rfl infoL ?_) | (go_at_call 7; refine (HKp.out h h64 _ _ _ HS.out).mono ?_; rintro e w3 ⟨A2, c2, B2, d2, rfl, hs2, hb3⟩; have HI := Lib.hid (HI.out.on hb3); have HS := Lib.hid hs2; clear hs2 hb3) | (refine ri_put rfl 26 (.tmp 10) (.tmp 47) rfl #[.int .i64 k, .slice A2 (h + 1) c2] rfl rfl (HI.out.add 26 zL) rfl infoL (by simp [Value.oneCell']) ?_; intro w4 hI4 hf4; have HS := Lib.hid ((HS.out.on ((Below.refl _ _).alloc (Nat.le_refl _) _)).far (HI.out.add 26 zL).bx (Nat.le_refl 2) hf4); have HI := Lib.hid hI4; clear hI4 hf4; have f0 := (HI.out.cell 0).trans (show _ = some (.int .i64 k) from rfl); have f2 := (HI.out.swap.cell 0).trans (show _ = some (.int .i64 k) from rfl)) | (refine wpList_load_row rfl 26 (.tmp 10) rfl _ rfl 26 _ (0, 0) _ HI.out.bx Try.underlying26 rfl infoL ?_) | (refine ri_put rfl 26 (.tmp 7) (.tmp 67) rfl #[.int .i64 k, .slice A2 (h + 1) c2] rfl rfl HI.out.swap rfl infoL (by simp [Value.oneCell']) ?_; intro w5 hI5 hf5; have HS := Lib.hid (HS.out.far HI.out.swap.bx (Nat.le_refl 2) hf5); have HI5 := Lib.hid hI5; clear hI5 hf5))
        go_roundw
        case rel => exact ⟨h + 1, h + 1, A2, c2, by omega, by go_num, by omega, Lib.hid (by omega), Lib.hid (HI5.out.swap.tail), HS, Lib.hid (HB0.out.trans (HI5.out.below.mono HB0.out.size))⟩
        case measure => simp [intOf]; omega
      · obtain rfl : h = 64 := by have := Hh.out; omega
        clear Hh
        go_wp2_with (first | (refine wpList_load_row rfl 26 (.tmp 7) rfl _ rfl 26 _ (0, 0) _ HI.out.bx Try.underlying26 rfl infoL ?_) | (go_at_call 7; refine (HFl.out i (by omega) (by omega) _ _ _ HS.out).mono ?_; rintro e w3 ⟨A2, c2, B2, d2, rfl, hs2, hb3⟩; have HI := Lib.hid (HI.out.on hb3); have HS := Lib.hid hs2; clear hs2 hb3) | (refine ri_put rfl 26 (.tmp 10) (.tmp 47) rfl #[.int .i64 k, .slice A2 64 c2] rfl rfl (HI.out.add 26 zL) rfl infoL (by simp [Value.oneCell']) ?_; intro w4 hI4 hf4; have HS := Lib.hid ((HS.out.on ((Below.refl _ _).alloc (Nat.le_refl _) _)).far (HI.out.add 26 zL).bx (Nat.le_refl 2) hf4); have HI := Lib.hid hI4; clear hI4 hf4; have f0 := (HI.out.cell 0).trans (show _ = some (.int .i64 k) from rfl); have f2 := (HI.out.swap.cell 0).trans (show _ = some (.int .i64 k) from rfl)) | (refine wpList_load_row rfl 26 (.tmp 10) rfl _ rfl 26 _ (0, 0) _ HI.out.bx Try.underlying26 rfl infoL ?_) | (refine ri_put rfl 26 (.tmp 7) (.tmp 67) rfl #[.int .i64 k, .slice A2 64 c2] rfl rfl HI.out.swap rfl infoL (by simp [Value.oneCell']) ?_; intro w5 hI5 hf5; have HS := Lib.hid (HS.out.far HI.out.swap.bx (Nat.le_refl 2) hf5); have HI5 := Lib.hid hI5; clear hI5 hf5))
        go_roundw
        case rel => exact ⟨i + 1, 64, A2, c2, by omega, by go_num, by omega, Lib.hid (by omega), Lib.hid (HI5.out.swap.tail), HS, Lib.hid (HB0.out.trans (HI5.out.below.mono HB0.out.size))⟩
        case measure => simp [intOf]; omega
    · obtain rfl : i = m := by omega
      have hmn : (if (64 : Int) < ((i : Nat) : Int) then (64 : Int) else ((i : Nat) : Int)) = (h : Int) := by have := Hh.out; split <;> omega
      have hl0 := (HI.out.cell 0).trans (show _ = some (.int .i64 k) from rfl)
      have hl1 := (HI.out.cell 1).trans (show _ = some (.slice A h c) from rfl)
      have hcc := HS.out.cap
      have hcl := HS.out.le
      unfold maxLen at hcc
      clear Hh HKp HFl
      go_upto_region 18 with (fail)
      rcases a2 with _ | _
      · have HSm := Lib.hid (fun (A1 : Option Addr) (c1 : Nat) (A' : Option Addr) (c' : Nat) (V : World) (h1 : Sl V A1 h c1 20 (roomC k h)) (h2 : Sl V A' h c' 20 (roomC k h)) => ref_Same6 k A1 h c1 A' c' ((seqN (k + 1) h).map sg) (by rw [List.length_map, seqN_len]) V h1 h2)
        clear HJn
        by_cases hke : k = 1
        · have hkb : (k == 1) = true := by simp [hke]
          rw [if_pos hke] at HBk
          clear hke
          go_upto_region 20 with (first | (refine wpList_load_row rfl 26 (.tmp 7) rfl _ rfl 26 _ (0, 0) _ HI.out.bx Try.underlying26 rfl infoL ?_) | (go_at_call 7; refine (HBk.out _ hh64 _ _ _ HS.out).mono ?_; rintro e w3 ⟨A2, c2, B2, d2, rfl, hs2, hb3⟩; have HI := Lib.hid (HI.out.on hb3); have HSo := Lib.hid (HS.out.on hb3); have HS := Lib.hid hs2; clear hs2 hb3) | (refine ri_put rfl 26 (.tmp 15) (.tmp 87) rfl #[.int .i64 k, .slice A2 h c2] rfl rfl (HI.out.add 26 zL) rfl infoL (by simp [Value.oneCell']) ?_; intro w4 hI4 hf4; have HS := Lib.hid ((HS.out.on ((Below.refl _ _).alloc (Nat.le_refl _) _)).far (HI.out.add 26 zL).bx (Nat.le_refl 2) hf4); have HSo := Lib.hid ((HSo.out.on ((Below.refl _ _).alloc (Nat.le_refl _) _)).far (HI.out.add 26 zL).bx (Nat.le_refl 2) hf4); have HI := Lib.hid hI4; clear hI4 hf4; have f2 := (HI.out.swap.cell 0).trans (show _ = some (.int .i64 k) from rfl)))
          go_wp2_with (first | (go_guarded; refine box_load HI.out.bx 26 (.tmp 15) rfl rfl _ Try.underlying26 rfl infoL ?_; try simp only [Act.put, List.setIfInBounds_toArray, List.set_cons_zero, List.set_cons_succ]) | (go_guarded; refine box_load HI.out.swap.bx 26 (.tmp 7) rfl rfl _ Try.underlying26 rfl infoL ?_; try simp only [Act.put, List.setIfInBounds_toArray, List.set_cons_zero, List.set_cons_succ]) | (go_at_call 10; refine (HSm.out A2 c2 A c _ HS.out HSo.out).mono ?_; rintro e w6 ⟨rfl, hb6⟩))
          go_ret
          exact ⟨rfl, HB0.out.trans ((HI.out.below.trans (hb6.mono HI.out.below.size)).mono HB0.out.size)⟩
        · have hkb : (k == 1) = false := by simp [hke]
          have hgt : 1 < k := by omega
          rw [if_neg hke] at HBk
          clear hke
          go_upto_region 20 with (first | (refine wpList_load_row rfl 26 (.tmp 7) rfl _ rfl 26 _ (0, 0) _ HI.out.bx Try.underlying26 rfl infoL ?_) | (go_at_call 7; refine (HBk.out _ hh64 _ _ _ HS.out).mono ?_; rintro e w3 ⟨A2, c2, B2, d2, rfl, hs2, hb3⟩; have HI := Lib.hid (HI.out.on hb3); have HSo := Lib.hid (HS.out.on hb3); have HS := Lib.hid hs2; clear hs2 hb3) | (refine ri_put rfl 26 (.tmp 15) (.tmp 87) rfl #[.int .i64 k, .slice A2 h c2] rfl rfl (HI.out.add 26 zL) rfl infoL (by simp [Value.oneCell']) ?_; intro w4 hI4 hf4; have HS := Lib.hid ((HS.out.on ((Below.refl _ _).alloc (Nat.le_refl _) _)).far (HI.out.add 26 zL).bx (Nat.le_refl 2) hf4); have HSo := Lib.hid ((HSo.out.on ((Below.refl _ _).alloc (Nat.le_refl _) _)).far (HI.out.add 26 zL).bx (Nat.le_refl 2) hf4); have HI := Lib.hid hI4; clear hI4 hf4; have f2 := (HI.out.swap.cell 0).trans (show _ = some (.int .i64 k) from rfl)))
          go_wp2_with (first | (go_guarded; refine box_load HI.out.bx 26 (.tmp 15) rfl rfl _ Try.underlying26 rfl infoL ?_; try simp only [Act.put, List.setIfInBounds_toArray, List.set_cons_zero, List.set_cons_succ]) | (go_guarded; refine box_load HI.out.swap.bx 26 (.tmp 7) rfl rfl _ Try.underlying26 rfl infoL ?_; try simp only [Act.put, List.setIfInBounds_toArray, List.set_cons_zero, List.set_cons_succ]) | (go_at_call 10; refine (HSm.out A2 c2 A c _ HS.out HSo.out).mono ?_; rintro e w6 ⟨rfl, hb6⟩))
          go_ret
          exact ⟨rfl, HB0.out.trans ((HI.out.below.trans (hb6.mono HI.out.below.size)).mono HB0.out.size)⟩
      · have hse : (k + 1 + (h : Int) == k + (h : Int) + 1) = true := by simp; omega
        clear HBk
        go_upto_region 22 with (first | (refine wpList_load_row rfl 26 (.tmp 7) rfl _ rfl 26 _ (0, 0) _ HI.out.bx Try.underlying26 rfl infoL ?_) | (go_at_call 7; refine (HJn.out _ hh64 _ _ _ HS.out).mono ?_; rintro e w3 ⟨A2, c2, B2, d2, rfl, hd1, hd2, hd3, hb3⟩; have HI := Lib.hid (HI.out.on hb3); clear hb3; unfold maxLen at hd2 hd3) | (refine ri_put rfl 26 (.tmp 18) (.tmp 125) rfl #[.int .i64 (k + 1 + (h : Int)), .slice A2 0 c2] rfl rfl (HI.out.add 26 zL) rfl infoL (by simp [Value.oneCell']) ?_; rintro w4 hI4 -; have HI := Lib.hid hI4; clear hI4; have f0 := (HI.out.cell 0).trans (show _ = some (.int .i64 (k + 1 + (h : Int))) from rfl); have f1 := (HI.out.cell 1).trans (show _ = some (.slice A2 0 c2) from rfl); have f2 := (HI.out.swap.cell 0).trans (show _ = some (.int .i64 k) from rfl)))
        go_wp2
        go_ret
        exact ⟨rfl, HB0.out.trans (HI.out.below.mono HB0.out.size)⟩
end Go.Proofs.Ytagehacnpdlpnaa
