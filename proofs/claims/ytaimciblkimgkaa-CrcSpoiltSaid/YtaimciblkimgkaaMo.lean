/-
  A row of bytes that the call may write behind: whatever marks the run-time set on its block, none of its cells is frozen. Nothing of the program stands here.
-/
import Derived.Test.YtaimciblkimgkaaMem
import Derived.Below
import Derived.Laws.IdiomCopy
import Derived.Laws.AppendOwn
import Derived.Lib.ConvBytes
import Derived.Lib.SlBytesConst
import Derived.Lib.AppendStr
import Derived.Deep.Upon
namespace Go.Proofs.Ytaimciblkimgkaa
open Go.RowKit

def Mo (w : World) (base : Nat) (v : Value) (n : Nat) (xs : List Value) : Prop :=
  xs.length = n ∧ ∃ g cap, v = .slice (some ⟨g, 0, none⟩) n cap ∧ base ≤ g ∧ g < w.heap.size ∧ n ≤ cap ∧ cap ≤ maxLen ∧ (∀ j u, xs[j]? = some u → w.cell? ⟨g, j, none⟩ = some u) ∧
    ∀ j, j < cap → (w.cell? ⟨g, j, none⟩).isSome = true ∧ w.frozen? ⟨g, j, none⟩ = false
theorem Mo.of_block {w : World} {base g n cap : Nat} {cs : Array Value} {t : TypeId} {fr : Nat × Nat} {xs : List Value} (hb : base ≤ g) (hg : w.heap[g]? = some (.cells cs t fr)) (hfr : fr = (0, 0) ∨ cs.size ≤ fr.1) (hs : cs.size = cap)
    (hx : cs.toList.take n = xs) (hn : n ≤ cap) (hm : cap ≤ maxLen) : Mo w base (.slice (some ⟨g, 0, none⟩) n cap) n xs := by
  refine ⟨by rw [← hx, List.length_take, Array.length_toList]; omega, g, cap, rfl, hb, (Array.getElem?_eq_some_iff.1 hg).1, hn, hm, fun j u hu => ?_, fun j hj => ⟨?_, ?_⟩⟩
  · rw [cell_of_row w g j cs t fr hg]
    rw [← hx, List.getElem?_take] at hu
    split at hu
    · simpa using hu
    · cases hu
  · rw [cell_of_row w g j cs t fr hg, Array.getElem?_eq_getElem (by omega)]; rfl
  · obtain ⟨lo, hi⟩ := fr
    simp only [World.frozen?, hg, Bool.and_eq_false_iff, decide_eq_false_iff_not]
    rcases hfr with hfr | hfr
    · injection hfr with h1 h2; subst h2; right; omega
    · left; simp only at hfr; omega
theorem Mo.of_own {w : World} {base n : Nat} {e : TypeId} {v : Value} {xs : List Value} (h : w.ownsRow base e 1 v n xs) (hn : 0 < n) : Mo w base v n xs := by
  rcases h.2 with ⟨_, h0⟩ | ⟨g, cap, cur, rfl, hb, hg, hc, hm, hs, ht⟩
  · omega
  · exact Mo.of_block hb hg (.inl rfl) (by simpa using hs) (by simpa using ht) hc hm
theorem Mo.const (w : World) (base : Nat) (cs : Array Value) (t : TypeId) (n : Nat) (xs : List Value) (hb : base ≤ w.heap.size) (hs : cs.size = n) (hx : cs.toList = xs) (hm : n ≤ maxLen) :
    Mo (w.alloc (.cells cs t (cs.size, cs.size + 1))) base (.slice (some ⟨w.heap.size, 0, none⟩) n n) n xs :=
  Mo.of_block hb (heap_alloc_new w _) (.inr (Nat.le_refl _)) hs (by rw [← hx]; exact List.take_of_length_le (by rw [Array.length_toList]; omega)) (Nat.le_refl _) hm
theorem Mo.bytes (w : World) (base : Nat) (e : TypeId) (s : ByteArray) (hb : base ≤ w.heap.size) (hs : s.size ≤ maxLen) : Mo (Lib.bytesWorld w e s) base (.slice (some ⟨w.heap.size, 0, none⟩) s.size (grownCap w s.size 0 e)) s.size (Lib.strCells s) := by
  have hge := grownCap_ge w s.size 0 e
  have hle := grownCap_le_maxLen w s.size 0 e hs
  have hsz : (Lib.bytesCells w e s).size = grownCap w s.size 0 e := by
    unfold Lib.bytesCells
    rw [Array.size_append, Array.size_map, Array.size_replicate]
    show s.size + _ = _
    omega
  refine Mo.of_block hb (Lib.bytesWorld_at_new w e s) (.inr (Nat.le_refl _)) hsz ?_ hge hle
  unfold Lib.bytesCells Lib.strCells
  rw [Array.toList_append, Array.toList_map]
  exact List.take_left' (by rw [List.length_map, Array.length_toList]; rfl)
theorem Mo.len {w : World} {base n : Nat} {v : Value} {xs : List Value} (h : Mo w base v n xs) : xs.length = n := h.1
theorem Mo.cast {w : World} {base n m : Nat} {v : Value} {xs ys : List Value} (h : Mo w base v n xs) (hx : xs = ys) (hn : n = m) : Mo w base v m ys := by subst hx; subst hn; exact h
theorem Mo.base_le {w : World} {base b n : Nat} {v : Value} {xs : List Value} (h : Mo w base v n xs) (hb : b ≤ base) : Mo w b v n xs := by
  obtain ⟨h1, g, cap, hv, h2, h3⟩ := h
  exact ⟨h1, g, cap, hv, Nat.le_trans hb h2, h3⟩
theorem Mo.keep {w w' : World} {base n : Nat} {v : Value} {xs : List Value} (h : Mo w base v n xs) (hs : w.heap.size ≤ w'.heap.size) (hk : ∀ g, v.ownBlock = some g → w'.heap[g]? = w.heap[g]?) : Mo w' base v n xs := by
  obtain ⟨h1, g, cap, rfl, h2, h3, h4, h5, h6, h7⟩ := h
  have he := hk g rfl
  have hc : ∀ j, w'.cell? ⟨g, j, none⟩ = w.cell? ⟨g, j, none⟩ := fun j => World.cell?_of_block (a := ⟨g, j, none⟩) he
  have hf : ∀ j, w'.frozen? ⟨g, j, none⟩ = w.frozen? ⟨g, j, none⟩ := fun j => World.frozen?_of_block (a := ⟨g, j, none⟩) he
  exact ⟨h1, g, cap, rfl, h2, by omega, h4, h5, fun j u hu => (hc j).trans (h6 j u hu), fun j hj => ⟨by rw [hc j]; exact (h7 j hj).1, by rw [hf j]; exact (h7 j hj).2⟩⟩
theorem sl_new1 (w : World) (v : Value) (t : TypeId) : Sl (w.alloc (.cells #[v] t)) (some ⟨w.heap.size, 0, none⟩) 1 1 1 [v] :=
  ⟨rfl, Nat.le_refl _, by decide, (fun h => by cases h), .inr ⟨_, 0, rfl, fun i u hu => by
    match i, hu with
    | 0, hu => cases hu; exact (Box.new w #[v] t).cell 0⟩⟩
theorem sl_new (w : World) (cs : Array Value) (n : Nat) (t : TypeId) (xs : List Value) (hn : cs.size = n) (hx : cs.toList = xs) (hm : n ≤ maxLen) : Sl (w.alloc (.cells cs t)) (some ⟨w.heap.size, 0, none⟩) n n 1 xs :=
  ⟨by rw [← hx, Array.length_toList]; omega, Nat.le_refl _, hm, (fun h => by cases h), .inr ⟨_, 0, rfl, fun i u hu => by
    rw [Nat.zero_add, (Box.new w cs t).cell i]
    rw [← hx] at hu; simpa using hu⟩⟩
theorem Mo.lt {w : World} {base n g : Nat} {v : Value} {xs : List Value} (h : Mo w base v n xs) (hg : v.ownBlock = some g) : base ≤ g ∧ g < w.heap.size := by
  obtain ⟨_, g', cap, rfl, h2, h3, _⟩ := h
  simp only [Value.ownBlock] at hg
  injection hg with hg; subst hg; exact ⟨h2, h3⟩
theorem Mo.on {w w' : World} {base n : Nat} {v : Value} {xs : List Value} (h : Mo w base v n xs) (hb : Below w.heap.size w w') : Mo w' base v n xs :=
  h.keep hb.size fun _ hg => hb.block _ (h.lt hg).2
theorem Mo.alloc {w : World} {base n : Nat} {v : Value} {xs : List Value} (h : Mo w base v n xs) (o : Obj) : Mo (w.alloc o) base v n xs := h.on ((Below.refl _ _).alloc (Nat.le_refl _) o)
theorem Mo.sl {w : World} {base n : Nat} {v : Value} {xs : List Value} (h : Mo w base v n xs) : ∃ g cap, v = .slice (some ⟨g, 0, none⟩) n cap ∧ Sl w (some ⟨g, 0, none⟩) n cap 1 xs ∧ base ≤ g ∧ g < w.heap.size := by
  obtain ⟨h1, g, cap, rfl, h2, h3, h4, h5, h6, h7⟩ := h
  exact ⟨g, cap, rfl, ⟨by omega, h4, h5, (fun h => by cases h), .inr ⟨g, 0, rfl, fun i u hu => by rw [Nat.zero_add]; exact h6 i u hu⟩⟩, h2, h3⟩
theorem Mo.below {B base n : Nat} {a w w' : World} {v : Value} {xs : List Value} (h : Below B a w) (hg : w.grownBy w' v.ownBlock) (hB : B ≤ w.heap.size) (hbase : B ≤ base) (ho : Mo w base v n xs) : Below B a w' :=
  h.grown hg hB fun _ hk => Nat.le_trans hbase (ho.lt hk).1

theorem size_setCells (g : Nat) : ∀ (vs : List Value) (o : Nat) (w : World), (w.setCells g o vs).heap.size = w.heap.size
  | [], _, _ => rfl
  | v :: r, o, w => by rw [World.setCells, size_setCells g r]; simp [World.setCell]
theorem tape_setCells (g : Nat) : ∀ (vs : List Value) (o : Nat) (w : World), (w.setCells g o vs).tape = w.tape
  | [], _, _ => rfl
  | v :: r, o, w => by rw [World.setCells, tape_setCells g r]; rfl
theorem oneCell_zeros (n : Nat) : (Builtin.zeroCells (Value.int .u8 0).cells n).size = n := by
  rw [size_zeroCells]; show n * 1 = n; omega
/-- In place, or at a new block: what the elder row's cells and the new ones come to. -/
theorem mo_room {w : World} {base g n cap : Nat} {xs news : List Value} (h : Mo w base (.slice (some ⟨g, 0, none⟩) n cap) n xs) (hroom : n + news.length ≤ cap) :
    Mo (w.setCells g n news) base (.slice (some ⟨g, 0, none⟩) (n + news.length) cap) (n + news.length) (xs ++ news) ∧ w.grownBy (w.setCells g n news) (some g) ∧ Row (w.setCells g n news) (some ⟨g, 0, none⟩) xs := by
  obtain ⟨h1, g', cap', hv, h2, h3, h4, h5, h6, h7⟩ := h
  injection hv with hv1 _ hv2
  injection hv1 with hv1
  injection hv1 with hv1 _ _
  subst hv1; subst hv2
  have hk := World.keptBut_setCells g (may := fun p => p.block = g) news n w (fun _ _ => rfl)
  have hsz : w.heap.size ≤ (w.setCells g n news).heap.size := by rw [size_setCells]; exact Nat.le_refl _
  have hsome : ∀ j, j < news.length → (w.cell? ⟨g, n + j, none⟩).isSome = true := fun j hj => (h7 (n + j) (by omega)).1
  have hold : ∀ j, j < n → (w.setCells g n news).cell? ⟨g, j, none⟩ = w.cell? ⟨g, j, none⟩ := fun j hj => World.cell?_setCells_out g news n w ⟨g, j, none⟩ (fun _ _ => .inl hj)
  have hbeh : ∀ j, n + news.length ≤ j → (w.setCells g n news).cell? ⟨g, j, none⟩ = w.cell? ⟨g, j, none⟩ := fun j hj => World.cell?_setCells_out g news n w ⟨g, j, none⟩ (fun _ _ => .inr hj)
  have hnew := World.cell?_setCells_in g news n w hsome
  refine ⟨⟨by simp [h1], g, cap, rfl, h2, by omega, hroom, h5, fun j u hu => ?_, fun j hj => ⟨?_, ?_⟩⟩, ⟨hk.1, ?_, hk.2.1, hsz, fun k hk' hne => World.heap_setCells_other w g n news hk' (fun e => hne (by rw [e]))⟩, .inr ⟨g, 0, rfl, fun j u hu => ?_⟩⟩
  · rcases Nat.lt_or_ge j n with hj | hj
    · rw [List.getElem?_append_left (by omega)] at hu
      rw [hold j hj]; exact h6 j u hu
    · rw [List.getElem?_append_right (by omega), h1] at hu
      obtain ⟨hl, hu⟩ := List.getElem?_eq_some_iff.1 hu
      have := hnew (j - n) hl
      rw [show n + (j - n) = j by omega, hu] at this
      exact this
  · rcases Nat.lt_or_ge j n with hj' | hj'
    · rw [hold j hj']; exact (h7 j hj).1
    · rcases Nat.lt_or_ge j (n + news.length) with hj2 | hj2
      · have := hnew (j - n) (by omega)
        rw [show n + (j - n) = j by omega] at this
        rw [this]; rfl
      · rw [hbeh j hj2]; exact (h7 j hj).1
  · rw [World.frozen?_setCells]; exact (h7 j hj).2
  · exact tape_setCells g news n w
  · rw [Nat.zero_add]
    have hj : j < n := by
      rcases Nat.lt_or_ge j n with h | h
      · exact h
      · rw [List.getElem?_eq_none (by omega)] at hu; cases hu
    rw [hold j hj]; exact h6 j u hu
theorem mo_grow {w : World} {base g n cap : Nat} {e : TypeId} {xs news : List Value} (h : Mo w base (.slice (some ⟨g, 0, none⟩) n cap) n xs) (hbase : base ≤ w.heap.size) (h63 : n + news.length ≤ maxLen) (row : Option Nat) :
    Mo (w.drew.alloc (.cells (xs.toArray ++ news.toArray ++ Builtin.zeroCells (Value.int .u8 0).cells (grownCap w (n + news.length) cap e - (n + news.length))) e)) base
      (.slice (some ⟨w.heap.size, 0, none⟩) (n + news.length) (grownCap w (n + news.length) cap e)) (n + news.length) (xs ++ news) ∧
    w.grownBy (w.drew.alloc (.cells (xs.toArray ++ news.toArray ++ Builtin.zeroCells (Value.int .u8 0).cells (grownCap w (n + news.length) cap e - (n + news.length))) e)) row ∧
    Row (w.drew.alloc (.cells (xs.toArray ++ news.toArray ++ Builtin.zeroCells (Value.int .u8 0).cells (grownCap w (n + news.length) cap e - (n + news.length))) e)) (some ⟨g, 0, none⟩) xs := by
  have hge := grownCap_ge w (n + news.length) cap e
  have hcm := grownCap_le_maxLen w (n + news.length) cap e h63
  have hl := h.1
  refine ⟨Mo.of_block hbase (heap_alloc_new w.drew _) (.inl rfl) ?_ ?_ hge hcm, ⟨rfl, rfl, rfl, by simp, fun k hk _ => (World.grownBy_alloc w.drew _ none).block k (by simpa using hk) (by simp)⟩, ?_⟩
  · simp only [Array.size_append, List.size_toArray, oneCell_zeros, hl]
    omega
  · simp only [Array.toList_append]
    exact List.take_left' (by simp [hl])
  · obtain ⟨g', cap', hv, hs, _, hlt⟩ := h.sl
    injection hv with hv1 _ hv2
    injection hv1 with hv1
    injection hv1 with hv1 _ _
    subst hv1
    refine hs.row.keep fun b o hb => ?_
    exact World.cell?_of_block (a := ⟨b, o, none⟩) ((World.grownBy_alloc w.drew _ none).block b (by simpa using hb) (by simp))
section
variable {P : Program}
/-- 'append(b, more...)', b a row that the call may write behind. -/
theorem run_append_mo (w : World) (base : Nat) (t ty e : TypeId) (i : TypeInfo) (ht : P.underlying t = some (.slice e)) (hi : P.info? e = some i) (hz : i.zero = some (.int .u8 0)) (hsize : i.size = 1) (hby : i.bytes = 1)
    (v : Value) (n : Nat) (xs : List Value) (hown : Mo w base v n xs) (ad : Addr) (m c : Nat) (news : List Value) (hl : news.length = m) (hnews : ∀ j u, news[j]? = some u → w.cell? (ad.add j) = some u) (h1 : ∀ u ∈ news, u.oneCell' = true)
    (h63 : n + m ≤ maxLen) (hbytes : n + m ≤ 140737488355328) (hbase : base ≤ w.heap.size) :
    ∃ v' w', (Builtin.append_ #[t, t] ty #[v, .slice (some ad) m c]).run P w = .ok v' w' ∧ Mo w' base v' (n + m) (xs ++ news) ∧ w.grownBy w' v.ownBlock ∧ ∀ A cap, v = .slice A n cap → Row w' A xs := by
  subst hl
  obtain ⟨g, cap, rfl, hs, hb, hlt⟩ := hown.sl
  by_cases hroom : n + news.length ≤ cap
  · obtain ⟨r1, r2, r3⟩ := mo_room hown hroom
    refine ⟨_, _, ?_, r1, r2, fun A cap' hv => by injection hv with hv; subst hv; exact r3⟩
    have hf := run_firstCells_some (P := P) w i.size news.length ad news.length c news (by rw [hsize, Nat.mul_one]) hnews
    obtain ⟨_, g', cap', hv, _, _, _, _, _, h7⟩ := hown
    injection hv with hv1 _ hv2
    injection hv1 with hv1
    injection hv1 with hv1 _ _
    subst hv1; subst hv2
    have hst := run_storeCells_cells (P := P) g n news 0 w (fun j hj => by rw [Nat.add_zero]; exact (h7 (n + j) (by omega)).1) (fun j hj => by rw [Nat.add_zero]; exact (h7 (n + j) (by omega)).2) h1
    rw [Nat.add_zero] at hst
    rw [hsize] at hf
    simp [Builtin.append_, run_underlying ht, sizeOf, typeInfo, hi, hsize, Builtin.lenOf, hroom, hf, Addr.add_lit, hst]
  · obtain ⟨r1, r2, r3⟩ := mo_grow (e := e) hown hbase h63 (some g)
    refine ⟨_, _, ?_, r1, r2, fun A cap' hv => by injection hv with hv; subst hv; exact r3⟩
    have hh : ∀ j u, xs[j]? = some u → w.cell? ((⟨g, 0, none⟩ : Addr).add j) = some u := fun j u hu => by
      rcases hs.row with h0 | ⟨b, o, he, hc⟩
      · subst h0; simp at hu
      · injection he with he; injection he with e1 e2 _; subst e1; subst e2; rw [addr_at]; exact hc j u hu
    exact run_append_grow (P := P) w t ty e i (.int .u8 0) ht hi hz ⟨g, 0, none⟩ n cap xs (by rw [hsize, Nat.mul_one]; exact hown.1) hh ad news.length c news (by rw [hsize, Nat.mul_one]) hnews (by omega) (by unfold maxLen at h63; omega) (growslice_fits (by omega) (by rw [hby]; omega))
theorem wpList_append_mo {w : World} {ops : Array Oper} {rest : List Oper} {o : Oper} {a : Act} {Q : Exit → Act → World → Prop} (hgd : o.guard = none) (s x : Operand) (t : TypeId)
    (ho : o.op = .call { callee := .builtin .append, args := #[s, x], argTypes := #[t, t] }) (base : Nat) (e : TypeId) (i : TypeInfo)
    (ht : P.underlying t = some (.slice e)) (hi : P.info? e = some i) (hz : i.zero = some (.int .u8 0)) (hsize : i.size = 1) (hby : i.bytes = 1)
    (v : Value) (n : Nat) (xs : List Value) (hs : a.eval s = v) (hown : Mo w base v n xs) (A : Option Addr) (m c : Nat) (news : List Value) (hx : a.eval x = .slice A m c) (hsl : Sl w A m c 1 news) (h1 : ∀ u ∈ news, u.oneCell' = true)
    (h63 : n + m ≤ maxLen) (hbytes : n + m ≤ 140737488355328) (hbase : base ≤ w.heap.size)
    (h : ∀ v' w', Mo w' base v' (n + m) (xs ++ news) → w.grownBy w' v.ownBlock → (∀ A cap, v = .slice A n cap → Row w' A xs) → wpList P ops Q rest (a.put o.dst v') w') : wpList P ops Q (o :: rest) a w := by
  refine wpList_plain hgd fun K hK => ?_
  obtain ⟨v', w', hr, h2, h3, h4⟩ : ∃ v' w', (Builtin.append_ #[t, t] o.type #[v, .slice A m c]).run P w = .ok v' w' ∧ Mo w' base v' (n + m) (xs ++ news) ∧ w.grownBy w' v.ownBlock ∧ ∀ A cap, v = .slice A n cap → Row w' A xs := by
    rcases A with _ | ad
    · have ⟨hm, hc⟩ := hsl.nil rfl
      subst hm; subst hc
      have hnil : news = [] := List.eq_nil_of_length_eq_zero (by have := hsl.len; omega)
      subst hnil
      obtain ⟨g, cap, rfl, hs', _⟩ := hown.sl
      refine ⟨_, w, ?_, by simpa using hown, World.grownBy.refl _ _, fun A cap' hv => by injection hv with hv; subst hv; exact hs'.row⟩
      have hle := hs'.le
      simp [Builtin.append_, run_underlying ht, sizeOf, typeInfo, hi, Builtin.lenOf, hle, Builtin.firstCells, storeCells]
    · refine run_append_mo (P := P) w base t o.type e i ht hi hz hsize hby v n xs hown ad m c news (by have := hsl.len; omega) (fun j u hu => ?_) h1 h63 hbytes hbase
      rcases hsl.row with h0 | ⟨b, off, e, hc⟩
      · subst h0; simp at hu
      · injection e with e; subst e; rw [addr_at]; exact hc j u hu
  unfold Oper.wp execOp
  simp only [ho, resolve, invoke, builtin, Sem.run_bind, Sem.run_pure, Result.andThen_ok, List.map_toArray, List.map_cons, List.map_nil, hs, hx, hr]
  exact hK _ _ (h v' w' h2 h3 h4)
/-- 'append(b, s...)', s a text. -/
theorem run_append_mo_string (w : World) (base : Nat) (t u ty e : TypeId) (i : TypeInfo) (ht : P.underlying t = some (.slice e)) (hu : P.underlying u = some .string) (hi : P.info? e = some i) (hz : i.zero = some (.int .u8 0)) (hsize : i.size = 1) (hby : i.bytes = 1)
    (v : Value) (n : Nat) (xs : List Value) (hown : Mo w base v n xs) (s : ByteArray) (h63 : n + s.size ≤ maxLen) (hbytes : n + s.size ≤ 140737488355328) (hbase : base ≤ w.heap.size) :
    ∃ v' w', (Builtin.append_ #[t, u] ty #[v, .string s]).run P w = .ok v' w' ∧ Mo w' base v' (n + s.size) (xs ++ Lib.strCells s) ∧ w.grownBy w' v.ownBlock := by
  obtain ⟨g, cap, rfl, hs, hb, hlt⟩ := hown.sl
  have hl := Lib.strCells_length s
  by_cases hroom : n + s.size ≤ cap
  · obtain ⟨r1, r2, r3⟩ := mo_room (news := Lib.strCells s) hown (by omega)
    rw [hl] at r1
    refine ⟨_, _, ?_, r1, r2⟩
    have hf := Lib.run_firstCells_string (P := P) w 1 s
    obtain ⟨_, g', cap', hv, _, _, _, _, _, h7⟩ := hown
    injection hv with hv1 _ hv2
    injection hv1 with hv1
    injection hv1 with hv1 _ _
    subst hv1; subst hv2
    have hst := run_storeCells_cells (P := P) g n (Lib.strCells s) 0 w (fun j hj => by rw [Nat.add_zero]; exact (h7 (n + j) (by omega)).1) (fun j hj => by rw [Nat.add_zero]; exact (h7 (n + j) (by omega)).2) (Lib.strCells_oneCell s)
    rw [Nat.add_zero] at hst
    simp [Builtin.append_, run_underlying ht, run_underlying hu, sizeOf, typeInfo, hi, hsize, Builtin.lenOf, hroom, hf, Addr.add_lit, hst]
  · obtain ⟨r1, r2, r3⟩ := mo_grow (e := e) (news := Lib.strCells s) hown hbase (by omega) (some g)
    rw [hl] at r1 r2
    refine ⟨_, _, ?_, r1, r2⟩
    have hh : ∀ j u, xs[j]? = some u → w.cell? ((⟨g, 0, none⟩ : Addr).add j) = some u := fun j u hu => by
      rcases hs.row with h0 | ⟨b, o, he, hc⟩
      · subst h0; simp at hu
      · injection he with he; injection he with e1 e2 _; subst e1; subst e2; rw [addr_at]; exact hc j u hu
    exact Lib.run_append_grow_string (P := P) w t u ty e i (.int .u8 0) ht hu hi hz ⟨g, 0, none⟩ n cap xs (by rw [hsize, Nat.mul_one]; exact hown.1) hh s (by omega) (by unfold maxLen at h63; omega) (growslice_fits (by omega) (by rw [hby]; omega))
theorem wpList_append_mo_string {w : World} {ops : Array Oper} {rest : List Oper} {o : Oper} {a : Act} {Q : Exit → Act → World → Prop} (hgd : o.guard = none) (sl x : Operand) (t u : TypeId)
    (ho : o.op = .call { callee := .builtin .append, args := #[sl, x], argTypes := #[t, u] }) (base : Nat) (e : TypeId) (i : TypeInfo)
    (ht : P.underlying t = some (.slice e)) (hu : P.underlying u = some .string) (hi : P.info? e = some i) (hz : i.zero = some (.int .u8 0)) (hsize : i.size = 1) (hby : i.bytes = 1)
    (v : Value) (n : Nat) (xs : List Value) (hs : a.eval sl = v) (hown : Mo w base v n xs) (s : ByteArray) (hx : a.eval x = .string s) (h63 : n + s.size ≤ maxLen) (hbytes : n + s.size ≤ 140737488355328) (hbase : base ≤ w.heap.size)
    (h : ∀ v' w', Mo w' base v' (n + s.size) (xs ++ Lib.strCells s) → w.grownBy w' v.ownBlock → wpList P ops Q rest (a.put o.dst v') w') : wpList P ops Q (o :: rest) a w := by
  refine wpList_plain hgd fun K hK => ?_
  obtain ⟨v', w', hr, h2, h3⟩ := run_append_mo_string (P := P) w base t u o.type e i ht hu hi hz hsize hby v n xs hown s h63 hbytes hbase
  unfold Oper.wp execOp
  simp only [ho, resolve, invoke, builtin, Sem.run_bind, Sem.run_pure, Result.andThen_ok, List.map_toArray, List.map_cons, List.map_nil, hs, hx, hr]
  exact hK _ _ (h v' w' h2 h3)
end
end Go.Proofs.Ytaimciblkimgkaa
