/-
  Layer 6's laws: the fixed answer; Come at single numbers.
-/
import Derived.Test.YtagehacnpdlpnaaReseqSame
import Derived.Test.YtagehacnpdlpnaaReseqRoom
namespace Go.Proofs.Ytagehacnpdlpnaa
open Go.RowKit

/-- What Come answers at a line of single numbers. -/
theorem come_at (k n n1 : Int) (hs : List Int) (A : Option Addr) (m c : Nat) (hm : hs.length = m) (h1 : n1 = n + 1) (V : World) (h : Sl V A m c 20 (icells (hs.map sg))) (hml : m ≤ 100000) :
    Calls Try.prog 7 #[.agg #[.int .i64 k, .slice A m c], .agg #[.int .i64 n, .int .i64 n1, .int .i64 0, .int .i64 0, .int .i64 0, .bool false, .int .i64 0, .int .i64 0, .bool false, .string ⟨#[]⟩, .string ⟨#[]⟩, .string ⟨#[]⟩, .string ⟨#[]⟩, .string ⟨#[]⟩, .string ⟨#[]⟩, .int .i64 0, .bool false, .int .i64 0, .int .i64 0, .int .i64 0]] V (ComePost (comeR (lineN k hs) (sg n)) V) := by
  subst h1
  exact own_Come k A m c (hs.map sg) (by rw [List.length_map]; exact hm) (sg n) V h hml
def NPost (k : Int) (hs out : List Int) (what : Int) (w : World) (e : Ending) (w' : World) : Prop :=
  ∃ A c A' c', e = .returned (.tuple #[.agg #[.int .i64 k, .slice A hs.length c], .slice A' out.length c', .int .i64 what]) ∧ Sl w' A hs.length c 20 (icells (hs.map sg)) ∧ Sl w' A' out.length c' 20 (icells (out.map sg)) ∧ Below w.heap.size w w'
theorem ComePost.num {r : Ln × List Itm × Int} {k : Int} {hs out : List Int} {what : Int} (hr : r = (lineN k hs, out.map sg, what)) {w : World} {e : Ending} {w' : World} (h : ComePost r w e w') : NPost k hs out what w e w' := by
  subst hr
  obtain ⟨A, n, c, A', n', c', rfl, h1, h2, h3, h4, h5⟩ := h
  have e1 : hs.length = n := by rw [← h1]; simp [lineN]
  have e2 : out.length = n' := by rw [← h2]; simp
  subst e1; subst e2
  exact ⟨A, c, A', c', rfl, h3, h4, h5⟩
theorem aw_r1 : comeR (lineN 1 []) (sg 3) = (lineN 1 [3], ([] : List Int).map sg, 2) := come_keep (by omega) rfl (by simp) (by simp) (by omega) (by omega) (by simp) (by simp)
theorem aw_r2 : comeR (lineN 1 [3]) (sg 1) = (lineN 2 [3], [1].map sg, 1) := come_now (by omega) (by decide) (by simp) (by simp) (by omega) rfl
theorem aw_r3 : comeR (lineN 2 [3]) (sg 2) = (lineN 4 [], [2, 3].map sg, 1) := come_now (by omega) (by decide) (by simp) (by simp) (by omega) rfl
theorem aw_gap : gapR ⟨1, [3].map sg⟩ = (1, 2, true) := by
  have h : Ln.rightB ⟨1, [3].map sg⟩ = true := lineN_right (k := 1) (hs := [3]) (by omega) (by decide) (by simp) (by simp)
  unfold gapR
  rw [h]
  rfl
set_option maxRecDepth 100000 in
set_option maxHeartbeats 1000000 in
theorem awake06 (W : World) : Calls Try.prog 6 #[] W fun e W' => e = .returned (.bool true) ∧ Below W.heap.size W W' := by
  have H1 := Lib.hid ((come_at 1 3 4 [] none 0 0 rfl rfl W (Sl.none_ W 20) (by omega)).mono fun _ _ h => ComePost.num aw_r1 h)
  have HG := Lib.hid (fun (A : Option Addr) (c : Nat) (V : World) (h : Sl V A 1 c 20 (icells ([3].map sg))) => own_Gap 1 A 1 c ([3].map sg) rfl V h)
  rw [aw_gap] at HG
  have H2 := Lib.hid (fun (A : Option Addr) (c : Nat) (V : World) (h : Sl V A 1 c 20 (icells ([3].map sg))) => (come_at 1 1 2 [3] A 1 c rfl rfl V h (by omega)).mono fun _ _ h => ComePost.num aw_r2 h)
  have H3 := Lib.hid (fun (A : Option Addr) (c : Nat) (V : World) (h : Sl V A 1 c 20 (icells ([3].map sg))) => (come_at 2 2 3 [3] A 1 c rfl rfl V h (by omega)).mono fun _ _ h => ComePost.num aw_r3 h)
  dsimp only at HG
  go_enter Try.func6, Try.ntmps6
  go_wp2_with fail
  refine H1.out.mono ?_
  rintro e w1 ⟨A1, c1, B1, d1, rfl, hs1, -, hb1⟩
  have HS1 := Lib.hid hs1
  have HI := Lib.hid ((RI.start W).on hb1)
  clear hs1 hb1 H1
  go_upto_region 2 with (first | (refine ri_put rfl 26 (.tmp 1) (.tmp 15) rfl #[.int .i64 1, .slice A1 1 c1] rfl rfl (HI.out.add 26 #[.int .i64 0, .slice none 0 0]) rfl infoL (by simp [Value.oneCell']) ?_; intro w2 hI2 hf2; have HS1 := Lib.hid ((HS1.out.on ((Below.refl _ _).alloc (Nat.le_refl _) _)).far (HI.out.add 26 #[.int .i64 0, .slice none 0 0]).bx (by decide) hf2); have HI := Lib.hid hI2; clear hI2 hf2))
  go_upto_region 3 with (first | (refine wpList_load_row rfl 26 (.tmp 1) rfl _ rfl 26 _ (0, 0) _ HI.out.bx Try.underlying26 rfl infoL ?_) | (go_at_call 11; refine (HG.out _ _ _ HS1.out).mono ?_; rintro e w2 ⟨rfl, hb2⟩; have HI := Lib.hid (HI.out.on hb2); have HS1 := Lib.hid (HS1.out.on hb2); clear hb2))
  go_upto_region 4 with (first | (refine wpList_load_row rfl 26 (.tmp 1) rfl _ rfl 26 _ (0, 0) _ HI.out.bx Try.underlying26 rfl infoL ?_) | (go_at_call 7; refine (H2.out _ _ _ HS1.out).mono ?_; rintro e w3 ⟨A2, c2, B2, d2, rfl, hs2, ht2, hb3⟩; have HI := Lib.hid (HI.out.on hb3); have HS1 := Lib.hid hs2; have HT := Lib.hid ht2; clear hs2 ht2 hb3) | (refine ri_put rfl 26 (.tmp 1) (.tmp 28) rfl #[.int .i64 2, .slice A2 1 c2] rfl rfl HI.out rfl infoL (by simp [Value.oneCell']) ?_; intro w4 hI4 hf4; have HS1 := Lib.hid (HS1.out.far HI.out.bx (Nat.le_refl 2) hf4); have HT := Lib.hid (HT.out.far HI.out.bx (Nat.le_refl 2) hf4); have HI := Lib.hid hI4; clear hI4 hf4))
  go_upto_region 5 with (first | (refine wpList_load_row rfl 26 (.tmp 1) rfl _ rfl 26 _ (0, 0) _ HI.out.bx Try.underlying26 rfl infoL ?_) | (go_at_call 7; refine (H3.out _ _ _ HS1.out).mono ?_; rintro e w3 ⟨A2, c2, B2, d2, rfl, hs2, ht2, hb3⟩; have HI := Lib.hid (HI.out.on hb3); have HS1 := Lib.hid hs2; have HT := Lib.hid ht2; clear hs2 ht2 hb3) | (refine ri_put rfl 26 (.tmp 1) (.tmp 35) rfl #[.int .i64 4, .slice A2 0 c2] rfl rfl HI.out rfl infoL (by simp [Value.oneCell']) ?_; intro w4 hI4 hf4; have HS1 := Lib.hid (HS1.out.far HI.out.bx (Nat.le_refl 2) hf4); have HT := Lib.hid (HT.out.far HI.out.bx (Nat.le_refl 2) hf4); have HI := Lib.hid hI4; clear hI4 hf4))
  obtain ⟨b, off, he, -, hy0, -⟩ := Row.itm (l := [2, 3].map sg) (k := 1) HT.out.row (by decide)
  have hy1 := (show _ = some (Value.int .i64 3) from hy0)
  rw [Nat.one_mul] at hy1
  have hl0 := (HI.out.cell 0).trans (show _ = some (.int .i64 4) from rfl)
  have hcd := HT.out.cap
  have hcl : 2 ≤ d2 := HT.out.le
  unfold maxLen at hcd
  clear hy0
  subst he
  go_wp2
  go_ret
  exact ⟨rfl, HI.out.below⟩
end Go.Proofs.Ytagehacnpdlpnaa
