/-
  Layer 8: the program's own sums of each byte: halved, fill: their contracts.
-/
import Derived.Test.YtaimciblkimgkaaCrcRef
import Derived.StillTailTactics
namespace Go.Proofs.Ytaimciblkimgkaa
open Go.RowKit

/-- A block of sums: whether they are made, the lock's word, each byte's. -/
structure Sums (w : World) (b : Nat) (d s : Int) (T : Nat → Nat) : Prop where
  c0 : w.cell? ⟨b, 0, none⟩ = some (.int .u32 d)
  c1 : w.cell? ⟨b, 1, none⟩ = some (.int .i32 s)
  tab : ∀ j, j < 256 → w.cell? ⟨b, 3 + j, none⟩ = some (.int .u32 (T j : Nat))
  free : ∀ k, w.frozen? ⟨b, k, none⟩ = false
theorem cellS_ne (w : World) (g k j : Nat) (v : Value) (h : j ≠ k) : (w.setCell ⟨g, k, none⟩ v).cell? ⟨g, j, none⟩ = w.cell? ⟨g, j, none⟩ := by
  unfold World.cell? World.setCell
  rw [Array.getElem?_modify]
  by_cases hg : g < w.heap.size
  · simp only [if_true]
    cases hh : w.heap[g]? with
    | none => rfl
    | some o => cases o <;> simp [Ne.symm h]
  · simp [Array.getElem?_eq_none (Nat.le_of_not_lt hg)]
theorem cellS_eq (w : World) (g k : Nat) (v u : Value) (h : w.cell? ⟨g, k, none⟩ = some u) : (w.setCell ⟨g, k, none⟩ v).cell? ⟨g, k, none⟩ = some v := World.cell?_setCell_same w _ _ h
theorem freeS (w : World) (g k j : Nat) (v : Value) : (w.setCell ⟨g, k, none⟩ v).frozen? ⟨g, j, none⟩ = w.frozen? ⟨g, j, none⟩ := by simp
theorem Sums.set0 {w : World} {b : Nat} {d s : Int} {T : Nat → Nat} (h : Sums w b d s T) (d' : Int) : Sums (w.setCell ⟨b, 0, none⟩ (.int .u32 d')) b d' s T :=
  ⟨cellS_eq _ _ _ _ _ h.c0, (cellS_ne _ _ _ _ _ (by omega)).trans h.c1, fun j hj => (cellS_ne _ _ _ _ _ (by omega)).trans (h.tab j hj), fun k => (freeS ..).trans (h.free k)⟩
theorem Sums.set1 {w : World} {b : Nat} {d s : Int} {T : Nat → Nat} (h : Sums w b d s T) (s' : Int) : Sums (w.setCell ⟨b, 1, none⟩ (.int .i32 s')) b d s' T :=
  ⟨(cellS_ne _ _ _ _ _ (by omega)).trans h.c0, cellS_eq _ _ _ _ _ h.c1, fun j hj => (cellS_ne _ _ _ _ _ (by omega)).trans (h.tab j hj), fun k => (freeS ..).trans (h.free k)⟩
theorem Sums.setT {w : World} {b : Nat} {d s : Int} {T : Nat → Nat} (h : Sums w b d s T) {i : Nat} (hi : i < 256) (x : Nat) : Sums (w.setCell ⟨b, 3 + i, none⟩ (.int .u32 (x : Nat))) b d s (fun j => if j = i then x else T j) := by
  refine ⟨(cellS_ne _ _ _ _ _ (by omega)).trans h.c0, (cellS_ne _ _ _ _ _ (by omega)).trans h.c1, fun j hj => ?_, fun k => (freeS ..).trans (h.free k)⟩
  by_cases e : j = i
  · subst e
    rw [if_pos rfl]
    exact cellS_eq _ _ _ _ _ (h.tab j hj)
  · rw [if_neg e]
    exact (cellS_ne _ _ _ _ _ (by omega)).trans (h.tab j hj)
theorem Sums.drew {w : World} {b : Nat} {d s : Int} {T : Nat → Nat} (h : Sums w b d s T) : Sums w.drew b d s T :=
  ⟨(World.cell?_drew ..).trans h.c0, (World.cell?_drew ..).trans h.c1, fun j hj => (World.cell?_drew ..).trans (h.tab j hj), fun k => (World.frozen?_drew ..).trans (h.free k)⟩
theorem Sums.cast {w : World} {b : Nat} {d s : Int} {T U : Nat → Nat} (h : Sums w b d s T) (e : ∀ j, j < 256 → T j = U j) : Sums w b d s U := ⟨h.c0, h.c1, fun j hj => by rw [← e j hj]; exact h.tab j hj, h.free⟩
theorem below_set {B b : Nat} {a w : World} (h : Below B a w) (hb : B ≤ b) (k : Nat) (v : Value) : Below B a (w.setCell ⟨b, k, none⟩ v) := h.setCell (p := ⟨b, k, none⟩) hb v
/-- The k-th step's bit. -/
def bitN (k : Nat) : Nat := 256 >>> k
def isBit (p : Nat) : Prop := p = 1 ∨ p = 2 ∨ p = 4 ∨ p = 8 ∨ p = 16 ∨ p = 32 ∨ p = 64 ∨ p = 128
theorem bit_facts {k : Nat} (h : k < 8) : isBit (bitN (k + 1)) ∧ bitN k = 2 * bitN (k + 1) ∧ bitN (k + 2) = bitN (k + 1) / 2 ∧ crcIt (k + 1) 1 = crc8 (bitN (k + 1)) := by
  rcases (show k = 0 ∨ k = 1 ∨ k = 2 ∨ k = 3 ∨ k = 4 ∨ k = 5 ∨ k = 6 ∨ k = 7 by omega) with rfl | rfl | rfl | rfl | rfl | rfl | rfl | rfl <;> (unfold isBit; decide +kernel)
theorem above_facts {p a : Nat} (hp : isBit p) (ha : a % (2 * p) = 0) (hlt : a < 256) : 1 ≤ p ∧ p ≤ 128 ∧ a + p < 256 ∧ (a + 2 * p) % (2 * p) = 0 ∧ a + 2 * p ≤ 256 ∧ (a + p) % (2 * p) ≠ 0 ∧ (∀ j, j < a + 2 * p → j % p = 0 → j < a ∨ j = a ∨ j = a + p) := by
  rcases hp with rfl | rfl | rfl | rfl | rfl | rfl | rfl | rfl <;> refine ⟨by omega, by omega, by omega, by omega, by omega, by omega, fun j h1 h2 => by omega⟩
theorem xor_add : ∀ (i : Fin 8) (a : Fin 256), a.val % (2 * 2 ^ i.val) = 0 → a.val ^^^ 2 ^ i.val = a.val + 2 ^ i.val := by decide +kernel
theorem bit_xor {p a : Nat} (hp : isBit p) (ha : a % (2 * p) = 0) (hlt : a < 256) : a ^^^ p = a + p := by
  rcases hp with rfl | rfl | rfl | rfl | rfl | rfl | rfl | rfl
  · exact xor_add 0 ⟨a, hlt⟩ ha
  · exact xor_add 1 ⟨a, hlt⟩ ha
  · exact xor_add 2 ⟨a, hlt⟩ ha
  · exact xor_add 3 ⟨a, hlt⟩ ha
  · exact xor_add 4 ⟨a, hlt⟩ ha
  · exact xor_add 5 ⟨a, hlt⟩ ha
  · exact xor_add 6 ⟨a, hlt⟩ ha
  · exact xor_add 7 ⟨a, hlt⟩ ha
theorem own_halved (m : Nat) (hm : m < 4294967296) (w : World) : Calls Try.prog 28 #[.int .u32 (m : Nat)] w fun e w' => e = .returned (.int .u32 (crcBit m : Nat)) ∧ w' = w := by
  have hm0 : (0 : Int) ≤ (m : Int) := by omega
  have hm1 : (m : Int) ≤ 4294967295 := by omega
  by_cases ho : m % 2 = 1
  · have HB1 := Lib.hid (iter_odd m ho)
    have hx : bits .xor .u32 ((m : Int) / 2) 3988292384 = ((m / 2 ^^^ 3988292384 : Nat) : Int) := by
      rw [show ((m : Int) / 2) = ((m / 2 : Nat) : Int) by omega]
      exact u32_xor_nat (m / 2) 3988292384 (by omega) (by decide)
    have hob : ((m : Int) % 2 == 1) = true := by rw [beq_iff_eq]; omega
    go_enter Try.func28, Try.ntmps28
    go_wp2
    go_ret
    exact ⟨by rw [HB1.out]; rfl, rfl⟩
  · have HB1 := Lib.hid (iter_even m ho)
    have hob : ((m : Int) % 2 == 1) = false := by rw [beq_eq_false_iff_ne]; omega
    go_enter Try.func28, Try.ntmps28
    go_wp2
    go_ret
    exact ⟨by rw [HB1.out]; rfl, rfl⟩
/-- What stands there once the first k bits are done. -/
def Done (T : Nat → Nat) (p : Nat) : Prop := ∀ j, j < 256 → j % p = 0 → T j = crc8 j
set_option maxRecDepth 100000 in
set_option maxHeartbeats 1000000 in
theorem own_fill (b : Nat) (s : Int) (w : World) (h : Sums w b 0 s (fun _ => 0)) : Calls Try.prog 25 #[.pointer (some ⟨b, 0, none⟩)] w fun e w' => e = .returned (.tuple #[]) ∧ Sums w' b 0 s crc8 ∧ Below b w w' := by
  have HS := Lib.hid h
  clear h
  go_enter Try.func25, Try.ntmps25
  go_wp2
  go_loopw [2, 3, 4] (fun s2 s3 _ wr => ∃ k : Nat, k ≤ 8 ∧ s3 = .int .i64 (bitN (k + 1) : Nat) ∧ s2 = .int .u32 (crcIt k 1 : Nat) ∧ Hid (∃ T, Sums wr b 0 s T ∧ Done T (bitN k)) ∧ Hid (Below b w wr)) (fun _ s3 _ _ => (intOf s3).toNat)
  case atStart => exact ⟨0, by omega, rfl, rfl, Lib.hid ⟨_, HS.out, fun j h1 h2 => by rw [show j = 0 by rw [show bitN 0 = 256 from rfl] at h2; omega]; rfl⟩, Lib.hid (Below.refl _ _)⟩
  case round =>
    obtain ⟨k, hk, rfl, rfl, HT, HB⟩ := hrel
    by_cases hk8 : k < 8
    · obtain ⟨hp, h2, h3, h4⟩ := bit_facts hk8
      have hcl := crcIt_lt (show 1 < 4294967296 by decide) k
      have HE := Lib.hid (show crcBit (crcIt k 1) = crcIt (k + 1) 1 from rfl)
      have hp1 : 1 ≤ bitN (k + 1) ∧ bitN (k + 1) ≤ 128 := by rcases hp with h | h | h | h | h | h | h | h <;> omega
      have HP := Lib.hid hp
      have H3 := Lib.hid h3
      have H4 := Lib.hid h4
      rw [h2] at HT
      clear hp h2 h3 h4
      have Hh := Lib.hid (own_halved (crcIt k 1) hcl)
      generalize hpk : bitN (k + 1) = p at *
      have HK := Lib.hid hpk
      clear hpk
      go_wp2_with fail
      refine (Hh.out _).mono ?_
      rintro e w1 ⟨rfl, rfl⟩
      rw [HE.out, H4.out]
      have hcp := crc8_lt (show p < 4294967296 by omega)
      clear Hh hcl
      go_wp2
      go_loopw [4] (fun s4 wq => ∃ a : Nat, a % (2 * p) = 0 ∧ a ≤ 256 ∧ s4 = .int .i64 (a : Nat) ∧ Hid (∃ T, Sums wq b 0 s T ∧ Done T (2 * p) ∧ ∀ j, j < a → j % p = 0 → T j = crc8 j) ∧ Hid (Below b w wq)) (fun s4 _ => 256 - (intOf s4).toNat)
      case atStart =>
        obtain ⟨T, h1, h2⟩ := HT.out
        exact ⟨0, by simp, by omega, rfl, Lib.hid ⟨T, h1, h2, fun j hj => absurd hj (by omega)⟩, HB⟩
      case round =>
        obtain ⟨a, ha, ha2, rfl, HT2, HB2⟩ := hrel
        by_cases hlt : a < 256
        · obtain ⟨T, hS, hD, hA⟩ := HT2.out
          obtain ⟨_, _, hap, hb1, hb2, _, hb4⟩ := above_facts HP.out ha hlt
          have hTa : T a = crc8 a := hD a hlt ha
          have hc := hS.tab a hlt
          rw [hTa] at hc
          have hx : bits .xor .u32 (crc8 a : Int) (crc8 p : Int) = ((crc8 (a + p) : Nat) : Int) := by
            rw [u32_xor_nat _ _ (crc8_lt (by omega)) hcp, ← crc8_xor, bit_xor HP.out ha hlt]
          obtain ⟨q, hq⟩ : ∃ q, a + p = q := ⟨_, rfl⟩
          rw [hq] at hap hb4 hx
          have hw : IntKind.i64.wrap ((a : Int) + (p : Int)) = (q : Int) := by rw [IntKind.wrap_i64] <;> omega
          have hqi : (q : Int) < 256 := by omega
          have hq0 : (0 : Int) ≤ (q : Int) := by omega
          have hcd := hS.tab q hap
          have hfd := hS.free (3 + q)
          have HN := Lib.hid (show (∃ T, Sums (wr.drew.setCell ⟨b, 3 + q, none⟩ (.int .u32 (crc8 q : Nat))) b 0 s T ∧ Done T (2 * p) ∧ ∀ j, j < a + 2 * p → j % p = 0 → T j = crc8 j) from ⟨_, hS.drew.setT hap _, fun j h1 h2 => by
              show (if j = q then crc8 q else T j) = crc8 j
              split
              · rename_i e; rw [e]
              · exact hD j h1 h2, fun j h1 h2 => by
              show (if j = q then crc8 q else T j) = crc8 j
              split
              · rename_i e; rw [e]
              · rcases hb4 j h1 h2 with h | h | h
                · exact hA j h h2
                · rw [h]; exact hTa
                · rename_i e; exact absurd h e⟩)
          have HBN := Lib.hid (below_set HB2.out.drew (Nat.le_refl _) (3 + q) (.int .u32 (crc8 q : Nat)))
          clear hS hD hA hTa hb4 hq
          go_wp2_with fail
          go_still_tail 15, (by kernel_rfl)
          change wpList _ _ _ _ _ wr.drew
          go_wp2
          go_roundw
          case rel => exact ⟨a + 2 * p, hb1, hb2, by go_num, HN, HBN⟩
          case measure => simp [intOf]; omega
        · have HT3 := Lib.hid (show (∃ T, Sums wr b 0 s T ∧ Done T p) from by
            obtain ⟨T, h1, h2, h3⟩ := HT2.out
            exact ⟨T, h1, fun j h4 h5 => h3 j (by omega) h5⟩)
          go_wp2
          go_roundw
          case rel => exact ⟨k + 1, by omega, by rw [H3.out]; go_num, by rw [H4.out], by rw [HK.out]; exact HT3, HB2⟩
          case measure => simp [intOf]; omega
    · obtain rfl : k = 8 := by omega
      obtain ⟨T, h1, h2⟩ := HT.out
      have HF := Lib.hid (h1.cast fun j hj => h2 j hj (by rw [show bitN 8 = 1 from rfl]; omega))
      clear h1 h2
      go_wp2
      go_end0
      exact ⟨rfl, HF.out, HB.out⟩
end Go.Proofs.Ytaimciblkimgkaa
