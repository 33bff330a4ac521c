/-
  Layer 8: the program's own sums of each byte, made once: of: its contract.
-/
import Derived.Test.YtaimciblkimgkaaCrcTab
import Derived.Test.YtaimciblkimgkaaOnce
namespace Go.Proofs.Ytaimciblkimgkaa
open Go.RowKit

set_option maxRecDepth 100000 in
set_option maxHeartbeats 1600000 in
theorem own_slow (b : Nat) (w : World) (h : Sums w b 0 0 (fun _ => 0)) :
    Calls Try.prog 27 #[.pointer (some ⟨b, 0, none⟩), .func (.func 25) #[.pointer (some ⟨b, 0, none⟩)] #[]] w fun e w' => e = .returned (.tuple #[]) ∧ Sums w' b 1 0 crc8 ∧ Below b w w' := by
  have h1 := h.set1 1
  have hB1 := below_set (Below.refl b w) (Nat.le_refl _) 1 (.int .i32 1)
  have Hlk := Lib.hid (lock_free ⟨b, 1, none⟩ w h.c1 (h.free 1))
  generalize w.setCell ⟨b, 1, none⟩ (.int .i32 1) = w1 at *
  have Hld := Lib.hid (once_load ⟨b, 0, none⟩ 0 w1 h1.c0)
  have Hfl := Lib.hid (own_fill b 1 w1 h1)
  have HB1 := Lib.hid hB1
  clear h h1 hB1
  go_enter_defers Try.func27, Try.ntmps27
  go_wp2_with fail
  refine (Hlk.out).mono ?_
  rintro e w' ⟨rfl, rfl⟩
  go_wp2_with fail
  refine (Hld.out).mono ?_
  rintro e w' ⟨rfl, rfl⟩
  go_wp2_with fail
  refine (Hfl.out).mono ?_
  rintro e w2 ⟨rfl, hs, hb⟩
  go_wp2
  refine leaves_cons (f := 32) (args := #[.pointer (some ⟨b, 0, none⟩), .bool true]) (by simp) (by simp [go_sem]) ?_
  refine (store_deferred ⟨b, 0, none⟩ _ .returning _ hs.c0 (hs.free 0)).mono ?_
  rintro e u' w3 ⟨rfl, rfl, hw⟩
  have hs3 : Sums w3 b 1 1 crc8 := by rw [hw]; exact hs.drew.set0 1
  have hb3 : Below b w w3 := by rw [hw]; exact below_set (HB1.out.trans (hb.mono (Nat.le_refl _))).drew (Nat.le_refl _) 0 _
  clear hw hs hb
  refine leaves_cons (f := 31) (args := #[.pointer (some ⟨b, 1, none⟩)]) (by simp [settle]) (by simp [go_sem]) ?_
  refine (unlock_deferred ⟨b, 1, none⟩ _ _ hs3.c1 (hs3.free 1)).mono ?_
  rintro e u' w4 ⟨rfl, rfl, hw⟩
  have hs4 : Sums w4 b 1 0 crc8 := by rw [hw]; exact hs3.set1 0
  have hb4 : Below b w w4 := by rw [hw]; exact below_set hb3 (Nat.le_refl _) 1 _
  clear hw hs3 hb3
  exact ⟨_, results_none rfl _ _ _, rfl, hs4, hb4⟩
/-- Sums that are made, or that aren't yet. -/
def Made (w : World) (b : Nat) : Prop := Sums w b 1 0 crc8 ∨ Sums w b 0 0 (fun _ => 0)
set_option maxHeartbeats 1000000 in
theorem own_do (b : Nat) (w : World) (h : Made w b) :
    Calls Try.prog 24 #[.pointer (some ⟨b, 0, none⟩), .func (.func 25) #[.pointer (some ⟨b, 0, none⟩)] #[]] w fun e w' => e = .returned (.tuple #[]) ∧ Sums w' b 1 0 crc8 ∧ Below b w w' := by
  rcases h with h | h
  · have Hld := Lib.hid (once_load ⟨b, 0, none⟩ 1 w h.c0)
    have HS := Lib.hid h
    clear h
    go_enter Try.func24, Try.ntmps24
    go_wp2_with fail
    refine (Hld.out).mono ?_
    rintro e w' ⟨rfl, rfl⟩
    go_wp2
    go_end0
    exact ⟨rfl, HS.out, Below.refl _ _⟩
  · have Hld := Lib.hid (once_load ⟨b, 0, none⟩ 0 w h.c0)
    have Hsl := Lib.hid (own_slow b w h)
    clear h
    go_enter Try.func24, Try.ntmps24
    go_wp2_with fail
    refine (Hld.out).mono ?_
    rintro e w' ⟨rfl, rfl⟩
    go_wp2_with fail
    refine (Hsl.out).mono ?_
    rintro e w2 ⟨rfl, hs, hb⟩
    go_wp2
    go_end0
    exact ⟨rfl, hs, hb⟩
set_option maxHeartbeats 1000000 in
theorem own_of (b x : Nat) (hx : x < 256) (w : World) (h : Made w b) :
    Calls Try.prog 22 #[.pointer (some ⟨b, 0, none⟩), .int .u8 (x : Nat)] w fun e w' => e = .returned (.int .u32 (crc8 x : Nat)) ∧ Made w' b ∧ Below b w w' := by
  have Hdo := Lib.hid (own_do b w h)
  have hxi : (x : Int) < 256 := by omega
  clear h
  go_enter Try.func22, Try.ntmps22
  go_wp2_with fail
  refine (Hdo.out).mono ?_
  rintro e w' ⟨rfl, hs, hb⟩
  have hc := hs.tab x hx
  have HS := Lib.hid hs
  clear hs
  go_wp2
  go_ret
  exact ⟨rfl, .inl HS.out, hb⟩
end Go.Proofs.Ytaimciblkimgkaa
