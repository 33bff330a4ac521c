/-
  Layer 4's laws: the fixed answer, and the walk of FeedRight.
-/
import Derived.Test.YtacaipnjedfdoaaDoorFeedOwn
import Derived.Test.YtacaipnjedfdoaaDoorFieldOpen
namespace Go.Proofs.YtacaipnjedfdoaaDoor
open Go.RowKit

def gx : List UInt8 := [51, 53, 61, 48, 1]
def gxB : List UInt8 := [56, 61, 70, 73, 88, 46, 52, 46, 52, 1, 57, 61, 53, 1, 51, 53, 61, 48, 1, 49, 48, 61, 49, 54, 51, 1]
theorem gx_right : frmR gx = true := by kernel_rfl
theorem gx_frame : frmB gx = gxB := by
  have h : headB gx = [56, 61, 70, 73, 88, 46, 52, 46, 52, 1, 57, 61, 53, 1, 51, 53, 61, 48, 1] := by
    unfold headB
    rw [show gx.length = 5 from rfl, decDigits_small (by omega)]; rfl
  unfold frmB
  rw [h]; rfl
theorem gx_feed1 : feed ([120, 121] ++ gxB.take 9) = ([], 2, gxB.take 9) := by
  rw [feed_cat 2 [120, 121] _ (Nat.le_refl _), feed_no8 (a := [120, 121]) (by decide)]
  have := nxt_part gx_right (k := 9) (by rw [gx_frame]; decide)
  rw [gx_frame] at this
  show cat _ (feed (gxB.take 9)) = _
  rw [feed_need this]; rfl
theorem gx_feed2 : feed gxB = ([gx], 0, []) := by
  have := feed_put gx_right []
  rw [List.append_nil, gx_frame, feed_need nxt_nil] at this
  exact this
theorem convConst4 (W : World) (C : Array Value) (n m m' : Nat) (hm : C.size = m) (hm' : m' = m + 1) : (convert 22 22 (.slice (some ⟨W.heap.size, 0, none⟩) n n)).run Tryd.prog (W.alloc (.cells C 5)) = .ok (.slice (some ⟨W.heap.size, 0, none⟩) n n) (W.alloc (.cells C 5 (m, m'))) := by
  subst hm; subst hm'
  exact Lib.run_convert_bytes_const W _ _ C n n Tryd.underlying22 Tryd.underlying5
theorem mo_lit4 (w : World) (base : Nat) (hb : base ≤ w.heap.size) (cs : Array Value) (t : TypeId) (n m m' : Nat) (l : List UInt8) (hs : cs.size = n) (hm : m = n) (hx : cs.toList = bcells l) (hn : n ≤ maxLen) : Mo (w.alloc (.cells cs t (m, m'))) base (.slice (some ⟨w.heap.size, 0, none⟩) n n) n (bcells l) :=
  Mo.of_block hb (heap_alloc_new w (.cells cs t (m, m'))) (.inr (show cs.size ≤ m by omega)) hs (show cs.toList.take n = bcells l by rw [← hx]; exact List.take_of_length_le (by rw [Array.length_toList]; omega)) (Nat.le_refl _) hn
theorem mo_sl {w : World} {base n g c : Nat} {xs : List Value} (h : Mo w base (.slice (some ⟨g, 0, none⟩) n c) n xs) : Sl w (some ⟨g, 0, none⟩) n c 1 xs := by
  obtain ⟨g', c', hv, hs, _⟩ := h.sl
  injection hv with hv1 _ hv2
  injection hv1 with hv1
  injection hv1 with hv1 _ _
  subst hv1; subst hv2
  exact hs
set_option maxRecDepth 100000 in
set_option maxHeartbeats 2000000 in
theorem awake04 (w : World) (hctx : FCtx w) : Calls Tryd.prog 6 #[] w fun e w' => e = .returned (.bool true) ∧ Below w.heap.size w w' := by
  obtain ⟨i0, hi, iz0, iz1, iz2⟩ := info_parts infoB
  have k5 := fun W : World => convConst4 W #[.int .u8 51, .int .u8 53, .int .u8 61, .int .u8 48, .int .u8 1] 5 5 6 rfl rfl
  have k2 := fun W : World => convConst4 W #[.int .u8 120, .int .u8 121] 2 2 3 rfl rfl
  have hB0 := (Below.refl w.heap.size w).alloc (Nat.le_refl _) (.cells #[.int .u8 51, .int .u8 53, .int .u8 61, .int .u8 48, .int .u8 1] 5 (5, 6))
  have hs1 := mo_sl (mo_lit4 w w.heap.size (Nat.le_refl _) #[.int .u8 51, .int .u8 53, .int .u8 61, .int .u8 48, .int .u8 1] 5 5 5 6 gx rfl rfl rfl (by decide))
  have hput := frame_Put _ 5 5 gx _ hs1 rfl (by omega) (hctx.on hB0)
  obtain ⟨e1, e2⟩ := frmE_ok gx_right
  rw [show FPutPost gx (w.alloc (.cells #[.int .u8 51, .int .u8 53, .int .u8 61, .int .u8 48, .int .u8 1] 5 (5, 6))) = fun e w' => ∃ f, e = .returned (.tuple #[f, .int .i64 0]) ∧ Moz w' (w.heap.size + 1) f 26 (bcells gxB) ∧ Below (w.heap.size + 1) (w.alloc (.cells #[.int .u8 51, .int .u8 53, .int .u8 61, .int .u8 48, .int .u8 1] 5 (5, 6))) w' from by
    funext e w'; unfold FPutPost; rw [e1, e2, gx_frame, World.size_alloc]; rfl] at hput
  have Hput := Lib.hid hput
  clear hput hs1 e1 e2
  go_enter Tryd.func6, Tryd.ntmps6
  go_wp2_with fail
  refine Hput.out.mono ?_
  rintro e w1 ⟨f, rfl, hmo, hb1⟩
  have hz1 := hb1.size
  simp only [World.size_alloc] at hz1
  have hB1 : Below w.heap.size w w1 := hB0.trans (hb1.mono (by omega))
  obtain ⟨g1, c1, rfl, hs1, _⟩ : ∃ g1 c1, f = .slice (some ⟨g1, 0, none⟩) 26 c1 ∧ Sl w1 (some ⟨g1, 0, none⟩) 26 c1 1 (bcells gxB) ∧ True := by
    rcases hmo with ⟨_, h0, _⟩ | h
    · cases h0
    · obtain ⟨g1, c1, h1, h2, _⟩ := h.sl; exact ⟨g1, c1, h1, h2, trivial⟩
  have hc1 := hs1.le
  have hc9 : ¬ c1 = 9 := by omega
  have hf9 := hs1.front 9 (by omega)
  rw [bcells_take] at hf9
  have hr9 := hs1.cut 9 (by omega)
  rw [if_neg hc9, Option.map_some, addr_at, bcells_drop, Nat.zero_add] at hr9
  have own1 := mo_lit4 w1 w1.heap.size (Nat.le_refl _) #[.int .u8 120, .int .u8 121] 5 2 2 3 [120, 121] rfl rfl rfl (by decide)
  have hb2 := (Below.refl w1.heap.size w1).alloc (Nat.le_refl _) (.cells #[.int .u8 120, .int .u8 121] 5 (2, 3))
  have hf9' := hf9.on hb2
  have Hr9 := Lib.hid hr9
  have hc9i : (9 : Int) ≤ (c1 : Int) := by omega
  clear hmo Hput k5 hf9 hr9 hs1
  go_wp2_with (at_builtin; refine wpList_append_mo rfl (.tmp 22) (.tmp 24) 22 rfl w1.heap.size 5 i0 Tryd.underlying22 hi iz0 iz1 iz2 _ _ _ rfl own1 (some ⟨g1, 0, none⟩) 9 c1 _ rfl hf9' (bcells_one _) (by decide) (by omega) (by simp) ?_)
  intro v3 w3 own3 hg3 _
  have hb3 := own1.below hb2 hg3 (by simp) (Nat.le_refl _)
  have hB3 : Below w.heap.size w w3 := hB1.trans (hb3.mono hB1.size)
  obtain ⟨g3, c3, rfl, hs3, _⟩ := (own3.cast (show _ = bcells ([120, 121] ++ gxB.take 9) from rfl) (show 2 + 9 = 11 from rfl)).sl
  have Hin1 := Lib.hid (in_fine feed_In (kb := []) (n := 0) (c := 0) (A := none) (Sl.none_ w3 1) rfl hs3 rfl (by omega) (by omega) (hctx.on hB3) ([120, 121] ++ gxB.take 9) rfl)
  rw [show InFine ([120, 121] ++ gxB.take 9) w3 = fun e w' => ∃ A c B d, e = .returned (.tuple #[.slice A 9 c, .slice B 0 d, .int .i64 2, .int .i64 0]) ∧ Sl w' A 9 c 1 (bcells (gxB.take 9)) ∧ SlL w' B 0 d [] ∧ Below w3.heap.size w3 w' from by
    funext e w'; unfold InFine; rw [gx_feed1]; rfl] at Hin1
  clear own1 own3 hg3 hf9' hb2 k2 hs3
  go_wp2_with fail
  refine Hin1.out.mono ?_
  rintro e w4 ⟨A4, c4, B4, d4, rfl, hs4, _, hb4⟩
  have hb4' : Below w1.heap.size w1 w4 := hb3.trans (hb4.mono hb3.size)
  have hB4 : Below w.heap.size w w4 := hB3.trans (hb4.mono hB3.size)
  have Hin2 := Lib.hid (in_fine feed_In hs4 rfl (Hr9.out.on hb4') rfl (by omega) (by omega) (hctx.on hB4) gxB rfl)
  rw [show InFine gxB w4 = fun e w' => ∃ A c B d, e = .returned (.tuple #[.slice A 0 c, .slice B 1 d, .int .i64 0, .int .i64 0]) ∧ Sl w' A 0 c 1 [] ∧ SlL w' B 1 d [gx] ∧ Below w4.heap.size w4 w' from by
    funext e w'; unfold InFine; rw [gx_feed2]; rfl] at Hin2
  clear Hin1 hs4 Hr9
  go_wp2_with fail
  refine Hin2.out.mono ?_
  rintro e w5 ⟨A5, c5, B5, d5, rfl, _, hl5, hb5⟩
  have hB5 : Below w.heap.size w w5 := hB4.trans (hb5.mono hB4.size)
  obtain ⟨b5, o5, rfl, B6, m6, d6, hc6, he6⟩ := hl5.get (k := 0) (by decide)
  rw [Nat.add_zero] at hc6
  have hcv : (convert 22 9 (.slice B6 m6 d6)).run Tryd.prog w5 = .ok (.string ⟨#[51, 53, 61, 48, 1]⟩) w5 := conv_sl (l := gx) he6.sl
  clear Hin2 hl5 he6
  go_wp2
  go_ret
  exact ⟨rfl, hB5⟩
end Go.Proofs.YtacaipnjedfdoaaDoor
