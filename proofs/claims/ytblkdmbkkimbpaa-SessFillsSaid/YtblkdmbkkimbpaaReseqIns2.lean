/-
  Layer 6, reseq: slices.Insert ahead of the end: in place, and where there is no room.
-/
import Derived.Test.YtblkdmbkkimbpaaReseqIns
namespace Go.Proofs.Ytblkdmbkkimbpaa
open Go.RowKit Go.Lib

theorem drew_own {W : World} {r : Option Nat} : W.grownBy W.drew r := ⟨rfl, rfl, rfl, Nat.le_refl _, fun _ _ _ => rfl⟩
theorem isSome_sets (b : Nat) (vs : List Value) (o : Nat) (w : World) (h : ∀ j, j < vs.length → (w.cell? ⟨b, o + j, none⟩).isSome = true) (k : Nat) (hk : (w.cell? ⟨b, k, none⟩).isSome = true) : ((w.setCells b o vs).cell? ⟨b, k, none⟩).isSome = true := by
  by_cases hin : o ≤ k ∧ k < o + vs.length
  · have := World.cell?_setCells_in b vs o w h (k - o) (by omega)
    rw [show o + (k - o) = k by omega] at this
    rw [this]; rfl
  · rw [World.cell?_setCells_out b vs o w ⟨b, k, none⟩ (fun _ _ => by show k < o ∨ o + vs.length ≤ k; omega)]
    exact hk
/-- What the cells of an owned row say. -/
structure OwnAt (W : World) (base g n c : Nat) (cur : Array Value) (l : List Itm) : Prop where
  low : base ≤ g
  box : Box W g 58 cur
  le : n ≤ c
  max : c ≤ maxLen
  size : cur.size = c * 20
  take : cur.toList.take (n * 20) = icells l
theorem OwnAt.cells {W : World} {base g n c : Nat} {cur : Array Value} {l : List Itm} (h : OwnAt W base g n c cur l) (_ : l.length = n) (j : Nat) (u : Value) (hu : (icells l)[j]? = some u) : W.cell? ⟨g, j, none⟩ = some u := by
  rw [h.box.cell]
  rw [← h.take, List.getElem?_take] at hu
  split at hu
  · simpa using hu
  · cases hu
set_option maxRecDepth 100000 in
set_option maxHeartbeats 600000 in
/-- In place. -/
theorem own_Insert_shift (base vb g c i : Nat) (cur : Array Value) (l : List Itm) (x : Itm) (W : World) (ho : OwnAt W base g l.length c cur l) (hi : i < l.length) (hn : l.length ≤ 64) (hroom : l.length + 1 ≤ c) (hx : Box W vb 58 x.arr) (hne : vb ≠ g) :
    Calls Try.prog 39 #[.slice (some ⟨g, 0, none⟩) l.length c, .int .i64 i, .slice (some ⟨vb, 0, none⟩) 1 1] W (InsPost base (.slice (some ⟨g, 0, none⟩) l.length c) (l.take i ++ x :: l.drop i) W) := by
  have HO := Lib.hid ho
  have HX := Lib.hid hx
  have hcap : c ≤ 9223372036854775807 := by have := ho.max; unfold maxLen at this; omega
  generalize hl : l.length = n at *
  have hD : (icells (l.drop i)).length = (n - i) * 20 := by rw [icells_len, List.length_drop, hl]
  have hcs := ho.cells hl
  have hcs2 : ∀ j u, (icells (l.drop i))[j]? = some u → W.cell? ⟨g, i * 20 + j, none⟩ = some u := fun j u hu => by
    rw [← icells_drop, List.getElem?_drop] at hu
    exact hcs _ _ hu
  have hsp : ∀ j, j < c * 20 → (W.cell? ⟨g, j, none⟩).isSome = true := fun j hj => by
    rw [ho.box.cell, Array.getElem?_eq_getElem (by rw [ho.size]; exact hj)]; rfl
  have hfz : ∀ j, W.frozen? ⟨g, j, none⟩ = false := fun j => ho.box.free _
  have HFin := Lib.hid (show ∀ w', w' = (W.drew.setCells g ((i + 1) * 20) (icells (l.drop i))).setCells g (i * 20) x.cells → InsPost base (.slice (some ⟨g, 0, none⟩) n c) (l.take i ++ x :: l.drop i) W (.returned (.slice (some ⟨g, 0, none⟩) (n + 1) c)) w' from fun w' he => by
    subst he
    have hB : Box ((W.drew.setCells g ((i + 1) * 20) (icells (l.drop i))).setCells g (i * 20) x.cells) g 58 _ := Box.sets x.cells (i * 20) (Box.sets (icells (l.drop i)) ((i + 1) * 20) (show Box W.drew g 58 cur from ho.box))
    have hlen : (l.take i ++ x :: l.drop i).length = n + 1 := by simp [hl]; omega
    have htk := ins_shift cur (icells (l.take i)) x.cells (icells (l.drop i)) (i * 20) 20 (by
      rw [← icells_take, ← ho.take, List.take_take, Nat.min_eq_left (by omega)]) x.cells_len (by rw [hD, ho.size]; omega)
    rw [hD, show i * 20 + 20 + (n - i) * 20 = (n + 1) * 20 by omega, show i * 20 + 20 = (i + 1) * 20 by omega] at htk
    refine ⟨_, rfl, ?_, grown_own g _ _ (grown_own g _ _ drew_own)⟩
    rw [hlen]
    refine ⟨by rw [icells_len, hlen], .inr ⟨g, c, _, rfl, ho.low, hB, hroom, ho.max, by rw [setAll_size, setAll_size, ho.size], ?_⟩⟩
    rw [htk, icells_app]
    rfl)
  have hcp1 : ∀ ty dc sc, (Builtin.copy_ #[25, 25] ty #[.slice (some ⟨g, (i + 1) * 20, none⟩) (n + 1 - (i + 1)) dc, .slice (some ⟨g, i * 20, none⟩) (n + 1 - i) sc]).run Try.prog W.drew = .ok (goInt (n - i : Nat)) (W.drew.setCells g ((i + 1) * 20) (icells (l.drop i))) := fun ty dc sc =>
    run_copy_rows W.drew _ _ ty 58 20 (n - i) g ((i + 1) * 20) (n + 1 - (i + 1)) dc ⟨g, i * 20, none⟩ (n + 1 - i) sc (icells (l.drop i)) Try.underlying25 infoI (by simp only [Nat.min_def]; split <;> omega) hD
      (fun j v hj => by rw [Addr.add_lit]; exact hcs2 j v hj)
      (fun j hj => hsp _ (by rw [hD] at hj; omega)) (fun j hj => hfz _) (icells_one _)
  obtain ⟨W1, hW1⟩ : ∃ W1, W1 = W.drew.setCells g ((i + 1) * 20) (icells (l.drop i)) := ⟨_, rfl⟩
  have hsp1 : ∀ k, k < c * 20 → (W1.cell? ⟨g, k, none⟩).isSome = true := fun k hk => by
    rw [hW1]
    exact isSome_sets g _ _ W.drew (fun j hj => hsp ((i + 1) * 20 + j) (by rw [hD] at hj; omega)) _ (hsp k hk)
  have hcp2 : ∀ (V : World), (∀ x, V.cell? x = W1.cell? x) → (∀ x, V.frozen? x = W1.frozen? x) → ∀ ty dc, (Builtin.copy_ #[25, 25] ty #[.slice (some ⟨g, i * 20, none⟩) (n + 1 - i) dc, .slice (some ⟨vb, 0, none⟩) 1 1]).run Try.prog V = .ok (goInt (1 : Nat)) (V.setCells g (i * 20) x.cells) := fun V hVc hVf ty dc =>
    run_copy_rows V _ _ ty 58 20 1 g (i * 20) (n + 1 - i) dc ⟨vb, 0, none⟩ 1 1 x.cells Try.underlying25 infoI (by simp only [Nat.min_def]; split <;> omega) (by rw [x.cells_len])
      (fun j v hj => by
        rw [Addr.add_lit, hVc, hW1, World.cell?_setCells_out g _ _ _ _ (fun h _ => absurd h hne), Nat.zero_add]
        show W.cell? _ = _
        rw [HX.out.cell j]
        simpa [Itm.arr] using hj)
      (fun j hj => by rw [hVc]; exact hsp1 _ (by rw [x.cells_len] at hj; omega)) (fun j hj => by rw [hVf, hW1, World.frozen?_setCells]; exact hfz _) x.cells_one
  rw [← hW1] at hcp1
  have hov : ∀ lb cb, (callFunc 42 #[.slice (some ⟨vb, 0, none⟩) 1 1, .slice (some ⟨g, (i + 1) * 20, none⟩) lb cb]).run Try.prog W = .ok (.value (.bool false)) W := fun lb cb => by
    rw [run_callFunc_extern Try.func42 (by kernel_rfl) (by kernel_rfl) (by kernel_rfl) (e := Extern.SlicesOverlaps.overlaps #[25, 25] #[4]) (by kernel_rfl),
      Lib.run_overlaps_apart W 25 4 58 Try.underlying25 20 (fun w => by kernel_rfl) ⟨vb, 0, none⟩ ⟨g, (i + 1) * 20, none⟩ 1 1 lb cb hne 58 58 x.arr.size cur.size
        (by unfold World.shape?; rw [show W.heap[vb]? = _ from HX.out]) (by unfold World.shape?; rw [show W.heap[g]? = _ from ho.box]) (by rw [ho.size]; omega) (HX.out.free _) (HX.out.free _)]
    rfl
  have hz2 : ¬ ((i : Int) = (n : Int)) := by omega
  have hw1 : IntKind.i64.wrap ((i : Int) + 1) = (i : Int) + 1 := by rw [IntKind.wrap_i64]; omega
  have hw2 : IntKind.i64.wrap ((n : Int) + 1) = (n : Int) + 1 := by rw [IntKind.wrap_i64]; omega
  have hin : i ≤ n := by omega
  have htn : ((i : Int) + 1).toNat = i + 1 := by omega
  have htm : ((n : Int) + 1).toNat = n + 1 := by omega
  have mixed : Try.prog.follows .mixedOrders = true := by kernel_rfl
  have hb1 : (0 : Int) ≤ (i : Int) + 1 := by omega
  have hb3 : (i : Int) ≤ (n : Int) := by omega
  have hb6 : (i : Int) ≤ (n : Int) + 1 := by omega
  have hb2 : ¬ (c = i + 1) := by omega
  have hb4 : ¬ (c = i) := by omega
  have hb5 : ¬ ((c : Int) < (n : Int) + 1) := by omega
  have HL := Lib.hid hl
  have HW1 := Lib.hid hW1
  have Hcp1 := Lib.hid hcp1
  have Hcp2 := Lib.hid hcp2
  have Hov := Lib.hid hov
  clear ho hx hcs hcs2 hsp hfz hsp1 hD hl hW1 hcp1 hcp2 hov
  go_enter Try.func39, Try.ntmps39
  go_upto_region 15 with (simp only [Hov.out])
  go_region_law_o (refine step_copyJ rfl _ _ 25 25 rfl (.slice (some ⟨g, (i + 1) * 20, none⟩) (n + 1 - (i + 1)) (c - (i + 1))) (.slice (some ⟨g, i * 20, none⟩) (n + 1 - i) (c - i)) (by simp [Act.eval, Act.put]) (by simp [Act.eval, Act.put]) (Hcp1.out _ _ _) ?_)
  go_wp2_with (refine wpList_copyJ _ rfl (.tmp 80) (.tmp 81) 25 25 rfl _ _ rfl rfl (Hcp2.out _ (fun _ => rfl) (fun _ => rfl) _ _) ?_)
  go_ret
  exact HFin.out _ (by rw [HW1.out])
set_option maxRecDepth 100000 in
set_option maxHeartbeats 600000 in
/-- Where there is no room: a new row. -/
theorem own_Insert_grow (base vb g c i : Nat) (cur : Array Value) (l : List Itm) (x : Itm) (W : World) (hbase : base ≤ W.heap.size) (ho : OwnAt W base g l.length c cur l) (hi : i < l.length) (hn : l.length ≤ 64) (hroom : c < l.length + 1) (hx : Box W vb 58 x.arr) :
    Calls Try.prog 39 #[.slice (some ⟨g, 0, none⟩) l.length c, .int .i64 i, .slice (some ⟨vb, 0, none⟩) 1 1] W (InsPost base (.slice (some ⟨g, 0, none⟩) l.length c) (l.take i ++ x :: l.drop i) W) := by
  obtain ⟨i0, hi0, iz0, iz1, iz2⟩ := info_parts infoI3
  have HX := Lib.hid hx
  have hnc := ho.le
  generalize hl : l.length = n at *
  have hD : (icells (l.drop i)).length = (n - i) * 20 := by rw [icells_len, List.length_drop, hl]
  have hT : (icells (l.take i)).length = i * 20 := by rw [icells_len, List.length_take, hl, Nat.min_eq_left (by omega)]
  have hcs := ho.cells hl
  have hcs2 : ∀ j u, (icells (l.drop i))[j]? = some u → W.cell? ⟨g, i * 20 + j, none⟩ = some u := fun j u hu => by
    rw [← icells_drop, List.getElem?_drop] at hu
    exact hcs _ _ hu
  have hcs1 : ∀ j u, (icells (l.take i))[j]? = some u → W.cell? ⟨g, j, none⟩ = some u := fun j u hu => by
    rw [← icells_take, List.getElem?_take] at hu
    split at hu
    · exact hcs _ _ hu
    · cases hu
  have hgl := ho.box.lt
  have hvl := hx.lt
  have hkk : (n : Int) + 1 - (i : Int) = ((n + 1 - i : Nat) : Int) := by omega
  have hik : i + (n + 1 - i) = n + 1 := by omega
  have hold : (Builtin.firstCells i0.size i (.slice (some ⟨g, 0, none⟩) i c)).run Try.prog W.drew = .ok (icells (l.take i)).toArray W.drew := by
    rw [iz1]
    exact run_firstCells_some W.drew 20 i ⟨g, 0, none⟩ i c _ hT (fun j v hj => by
      rw [Addr.add_lit, Nat.zero_add]
      exact hcs1 j v hj)
  obtain ⟨G, hG⟩ : ∃ G, G = grownCap W (n + 1) c 58 := ⟨_, rfl⟩
  obtain ⟨z, hz⟩ : ∃ z, i0.zero = some z := ⟨_, iz0⟩
  have hzc : z.cells.size = 20 := by rw [iz0] at hz; injection hz with hz; rw [← hz]; rfl
  have hrz : ∀ ty, (Builtin.append_ #[25, 3] ty #[.slice (some ⟨g, 0, none⟩) i c, .int .i64 ((n : Int) + 1 - (i : Int))]).run Try.prog W =
      .ok (.slice (some ⟨W.heap.size, 0, none⟩) (n + 1) G) (W.drew.alloc (.cells ((icells (l.take i)).toArray ++ Builtin.zeroCells z.cells (n + 1 - i) ++ Builtin.zeroCells z.cells (G - (n + 1))) 58)) := fun ty => by
    have h := Lib.run_append_grow_zeros W 25 3 ty 58 i0 _ .i64 .i64 Try.underlying25 Try.underlying3 hi0 hz (some ⟨g, 0, none⟩) i c _ hold (n + 1 - i) (by omega) (by omega) (by omega) (by omega) (by rw [iz2]; omega) (by rw [iz2, hik]; exact growslice_fits hroom (by omega))
    rw [hik, ← hG] at h
    rw [hkk]
    exact h
  have hGn : n + 1 ≤ G := by rw [hG]; exact grownCap_ge W _ _ _
  have hGm : G ≤ maxLen := by rw [hG]; exact grownCap_le_maxLen W _ _ _ (by unfold maxLen; omega)
  have hG63 : G ≤ 9223372036854775807 := by unfold maxLen at hGm; omega
  obtain ⟨ROW, hROW⟩ : ∃ ROW : Array Value, ROW = (icells (l.take i)).toArray ++ Builtin.zeroCells z.cells (n + 1 - i) ++ Builtin.zeroCells z.cells (G - (n + 1)) := ⟨_, rfl⟩
  rw [← hROW] at hrz
  have hRs : ROW.size = G * 20 := by
    rw [hROW, Array.size_append, Array.size_append, size_zeroCells, size_zeroCells, hzc]
    simp only [List.size_toArray, hT]
    omega
  have hRt : ROW.toList.take (i * 20) = icells (l.take i) := by
    rw [hROW, Array.toList_append, Array.toList_append, List.append_assoc]
    exact List.take_left' hT
  obtain ⟨W1, hW1⟩ : ∃ W1, W1 = W.drew.alloc (.cells ROW 58) := ⟨_, rfl⟩
  rw [← hW1] at hrz
  have hB1 : Box W1 W.heap.size 58 ROW := by rw [hW1]; exact Box.new W.drew ROW _
  have hBel : Below W.heap.size W W1 := by rw [hW1]; exact ((Below.refl W.heap.size W).drew).alloc (Nat.le_refl _) _
  have hNs : ∀ j, j < G * 20 → (W1.cell? ⟨W.heap.size, j, none⟩).isSome = true := fun j hj => by
    rw [hB1.cell, Array.getElem?_eq_getElem (by omega)]; rfl
  have hNf : ∀ j, W1.frozen? ⟨W.heap.size, j, none⟩ = false := fun j => hB1.free _
  obtain ⟨W2, hW2⟩ : ∃ W2, W2 = W1.setCells W.heap.size (i * 20) x.cells := ⟨_, rfl⟩
  have hcpA : ∀ ty dc, (Builtin.copy_ #[25, 25] ty #[.slice (some ⟨W.heap.size, i * 20, none⟩) (n + 1 - i) dc, .slice (some ⟨vb, 0, none⟩) 1 1]).run Try.prog W1 = .ok (goInt (1 : Nat)) W2 := fun ty dc => by
    rw [hW2]
    exact run_copy_rows W1 _ _ ty 58 20 1 W.heap.size (i * 20) (n + 1 - i) dc ⟨vb, 0, none⟩ 1 1 x.cells Try.underlying25 infoI (by simp only [Nat.min_def]; split <;> omega) (by rw [x.cells_len])
      (fun j v hj => by
        rw [Addr.add_lit, Nat.zero_add]
        refine cell_on hBel ?_
        rw [HX.out.cell j]
        simpa [Itm.arr] using hj)
      (fun j hj => hNs _ (by rw [x.cells_len] at hj; omega)) (fun j hj => hNf _) x.cells_one
  have hNs2 : ∀ j, j < G * 20 → (W2.cell? ⟨W.heap.size, j, none⟩).isSome = true := fun j hj => by
    rw [hW2]
    exact isSome_sets _ _ _ W1 (fun k hk => hNs (i * 20 + k) (by rw [x.cells_len] at hk; omega)) _ (hNs j hj)
  have hcpB : ∀ (V : World), (∀ x, V.cell? x = W2.cell? x) → (∀ x, V.frozen? x = W2.frozen? x) → ∀ ty dc sc, (Builtin.copy_ #[25, 25] ty #[.slice (some ⟨W.heap.size, (i + 1) * 20, none⟩) (n + 1 - (i + 1)) dc, .slice (some ⟨g, i * 20, none⟩) (n - i) sc]).run Try.prog V = .ok (goInt (n - i : Nat)) (V.setCells W.heap.size ((i + 1) * 20) (icells (l.drop i))) := fun V hVc hVf ty dc sc =>
    run_copy_rows V _ _ ty 58 20 (n - i) W.heap.size ((i + 1) * 20) (n + 1 - (i + 1)) dc ⟨g, i * 20, none⟩ (n - i) sc (icells (l.drop i)) Try.underlying25 infoI (by simp only [Nat.min_def]; split <;> omega) hD
      (fun j v hj => by
        rw [Addr.add_lit, hVc, hW2, World.cell?_setCells_out _ _ _ _ _ (fun h _ => absurd (show g = W.heap.size from h) (by omega))]
        exact cell_on hBel (hcs2 j v hj))
      (fun j hj => by rw [hVc]; exact hNs2 _ (by rw [hD] at hj; omega)) (fun j hj => by rw [hVf, hW2, World.frozen?_setCells]; exact hNf _) (icells_one _)
  have HFin := Lib.hid (show ∀ w', w' = W2.drew.setCells W.heap.size ((i + 1) * 20) (icells (l.drop i)) → InsPost base (.slice (some ⟨g, 0, none⟩) n c) (l.take i ++ x :: l.drop i) W (.returned (.slice (some ⟨W.heap.size, 0, none⟩) (n + 1) G)) w' from fun w' he => by
    subst he
    have hB : Box (W2.drew.setCells W.heap.size ((i + 1) * 20) (icells (l.drop i))) W.heap.size 58 _ := Box.sets (icells (l.drop i)) ((i + 1) * 20) (show Box W2.drew W.heap.size 58 _ from (by rw [hW2]; exact Box.sets x.cells (i * 20) hB1 : Box W2 W.heap.size 58 (setAll ROW (i * 20) x.cells)))
    have hlen : (l.take i ++ x :: l.drop i).length = n + 1 := by simp [hl]; omega
    have htk := ins_new ROW (icells (l.take i)) x.cells (icells (l.drop i)) (i * 20) 20 hRt x.cells_len (by rw [hD, hRs]; omega)
    rw [hD, show i * 20 + 20 + (n - i) * 20 = (n + 1) * 20 by omega, show i * 20 + 20 = (i + 1) * 20 by omega] at htk
    have hg1 : W.grownBy W2 (Value.slice (some ⟨g, 0, none⟩) n c).ownBlock := by
      rw [hW2]
      exact grown_sets _ (Nat.le_refl _) _ _ (grown_below hBel)
    refine ⟨_, rfl, ?_, grown_sets _ (Nat.le_refl _) _ _ (grown_trans hg1 drew_own)⟩
    rw [hlen]
    refine ⟨by rw [icells_len, hlen], .inr ⟨_, G, _, rfl, hbase, hB, hGn, hGm, by rw [setAll_size, setAll_size, hRs], ?_⟩⟩
    rw [htk, icells_app]
    rfl)
  have hGi : ¬ (G = i) := by omega
  have hGim : ¬ (G = i + 1) := by omega
  have hci : ¬ (c = i) := by omega
  have hz2 : ¬ ((i : Int) = (n : Int)) := by omega
  have hz3 : (c : Int) < (n : Int) + 1 := by omega
  have mixed : Try.prog.follows .mixedOrders = true := by kernel_rfl
  have hw1 : IntKind.i64.wrap ((i : Int) + 1) = (i : Int) + 1 := by rw [IntKind.wrap_i64]; omega
  have hb1 : (0 : Int) ≤ (i : Int) + 1 := by omega
  have hb6 : (i : Int) ≤ (n : Int) + 1 := by omega
  have hin : i ≤ n := by omega
  have htn : ((i : Int) + 1).toNat = i + 1 := by omega
  have hb3 : (i : Int) ≤ (n : Int) := by omega
  have Hrz := Lib.hid hrz
  have HcpA := Lib.hid hcpA
  have HcpB := Lib.hid hcpB
  clear ho hx hcs hcs1 hcs2 hD hT hl hold hz hzc hrz hG hGm hROW hRs hRt hW1 hB1 hBel hNs hNf hW2 hcpA hNs2 hcpB hkk hik hgl hvl
  go_enter Try.func39, Try.ntmps39
  go_upto_region 10 with (first | (at_builtin; refine Lib.wpList_append_run _ rfl (.tmp 34) (.tmp 39) 25 3 rfl _ _ rfl rfl _ _ (Hrz.out _) ?_))
  go_upto_region 11 with (first | (refine wpList_copyJ _ rfl (.tmp 43) (.tmp 44) 25 25 rfl _ _ rfl rfl (HcpA.out _ _) ?_))
  go_region_law_o (refine step_copyJ rfl _ _ 25 25 rfl (.slice (some ⟨W.heap.size, (i + 1) * 20, none⟩) (n + 1 - (i + 1)) (G - (i + 1))) (.slice (some ⟨g, i * 20, none⟩) (n - i) (c - i)) (by simp [Act.eval, Act.put]) (by simp [Act.eval, Act.put]) (HcpB.out W2.drew (fun _ => rfl) (fun _ => rfl) _ _ _) ?_)
  go_wp2
  go_ret
  exact HFin.out _ rfl
/-- Insert, at whatever place. -/
theorem own_Insert (base vb i : Nat) (l : List Itm) (x : Itm) (v : Value) (W : World) (hbase : base ≤ W.heap.size) (ho : W.ownsRow base 58 20 v l.length (icells l)) (hi : i ≤ l.length) (hn : l.length ≤ 64) (hx : Box W vb 58 x.arr) (hne : v.ownBlock ≠ some vb) :
    Calls Try.prog 39 #[v, .int .i64 i, .slice (some ⟨vb, 0, none⟩) 1 1] W (InsPost base v (l.take i ++ x :: l.drop i) W) := by
  by_cases he : i = l.length
  · subst he
    rw [List.take_length, List.drop_length]
    exact own_Insert_end base vb l x v W hbase ho hn hx
  · rcases ho with ⟨hlen, ⟨rfl, h0⟩ | ⟨g, c, cur, rfl, h1, h2, h3, h4, h5, h6⟩⟩
    · omega
    · have hO : OwnAt W base g l.length c cur l := ⟨h1, h2, h3, h4, h5, h6⟩
      by_cases hroom : l.length + 1 ≤ c
      · exact own_Insert_shift base vb g c i cur l x W hO (by omega) hn hroom hx (fun e => hne (by rw [e]; rfl))
      · exact own_Insert_grow base vb g c i cur l x W hbase hO (by omega) hn (by omega) hx
end Go.Proofs.Ytblkdmbkkimbpaa
