/-
  Layer 5, msg: a block that is known whole, and what is stored in it.
-/
import Derived.Test.YtblkdmbkkimbpaaProg
import Derived.Test.YtblkdmbkkimbpaaMg
import Derived.Test.YtblkdmbkkimbpaaMem
import Derived.Deep.MidRow
import Derived.RangeFuncWrites
import Derived.KernelRfl
namespace Go.Proofs.Ytblkdmbkkimbpaa
open Go.RowKit

theorem Box.set {w : World} {g : Nat} {t : TypeId} {cs : Array Value} (h : Box w g t cs) (i : Nat) (v : Value) : Box (w.setCell ⟨g, i, none⟩ v) g t (cs.setIfInBounds i v) := by
  obtain ⟨hlt, hk⟩ := Array.getElem?_eq_some_iff.1 h
  show (w.heap.modify g _)[g]? = _
  rw [Array.getElem?_eq_getElem (by rw [Array.size_modify]; exact hlt), Array.getElem_modify_self, hk]
  rfl
theorem grown_set (W : World) (g i : Nat) (v : Value) : W.grownBy (W.setCell ⟨g, i, none⟩ v) (some g) :=
  ⟨rfl, rfl, rfl, (KeepsWalks.setCell W _ v).size, fun k _ hk => Below.heap_setCell _ _ _ k (fun e => hk (by rw [e]))⟩
theorem grown_below {a b : World} {r : Option Nat} (h : Below a.heap.size a b) : a.grownBy b r := ⟨h.os, h.tape, h.output, h.size, fun k hk _ => h.block k hk⟩
theorem grown_trans {a b c : World} {r : Option Nat} (h : a.grownBy b r) (h' : b.grownBy c r) : a.grownBy c r :=
  ⟨h'.os.trans h.os, h'.tape.trans h.tape, h'.output.trans h.output, Nat.le_trans h.size h'.size, fun k hk hne => (h'.block k (Nat.lt_of_lt_of_le hk h.size) hne).trans (h.block k hk hne)⟩
theorem grown_from {B : Nat} {a b c : World} {g : Nat} (h : Below B a b) (hB : B ≤ b.heap.size) (hg : B ≤ g) (h' : b.grownBy c (some g)) : Below B a c :=
  ⟨h'.os.trans h.os, h'.tape.trans h.tape, h'.output.trans h.output, Nat.le_trans h.size h'.size, fun k hk => (h'.block k (Nat.lt_of_lt_of_le hk hB) (fun e => by injection e with e; omega)).trans (h.block k hk)⟩
theorem Box.grownBy {w w' : World} {g g' : Nat} {t : TypeId} {cs : Array Value} (h : Box w g t cs) (hg : w.grownBy w' (some g')) (hne : g ≠ g') : Box w' g t cs := (hg.block g h.lt (fun e => hne (by injection e))).trans h
def setAll (cs : Array Value) (o : Nat) : List Value → Array Value
  | [] => cs
  | v :: vs => setAll (cs.setIfInBounds o v) (o + 1) vs
theorem Box.sets {g : Nat} {t : TypeId} : ∀ (vs : List Value) {w : World} {cs : Array Value} (o : Nat), Box w g t cs → Box (w.setCells g o vs) g t (setAll cs o vs)
  | [], _, _, _, h => h
  | v :: vs, _, _, o, h => Box.sets vs (o + 1) (h.set o v)
theorem grown_sets {W : World} {r : Option Nat} (gx : Nat) (hx : W.heap.size ≤ gx) : ∀ (vs : List Value) {X : World} (o : Nat), W.grownBy X r → W.grownBy (X.setCells gx o vs) r
  | [], _, _, h => h
  | v :: vs, X, o, h => grown_sets gx hx vs (o + 1) ⟨h.os, h.tape, h.output, Nat.le_trans h.size (grown_set X gx o v).size, fun k hk hne => ((grown_set X gx o v).block k (Nat.lt_of_lt_of_le hk h.size) (fun e => by injection e with e; omega)).trans (h.block k hk hne)⟩
theorem size_sets (gx : Nat) : ∀ (vs : List Value) (X : World) (o : Nat), (X.setCells gx o vs).heap.size = X.heap.size
  | [], _, _ => rfl
  | v :: vs, X, o => (size_sets gx vs _ (o + 1)).trans (by simp [World.setCell])
theorem block_sets (gx : Nat) : ∀ (vs : List Value) (X : World) (o k : Nat), k ≠ gx → (X.setCells gx o vs).heap[k]? = X.heap[k]?
  | [], _, _, _, _ => rfl
  | _ :: vs, _, o, k, hne => (block_sets gx vs _ (o + 1) k hne).trans (Below.heap_setCell _ _ _ k hne)
theorem below_set {B gx : Nat} {a X : World} (hx : B ≤ gx) (o : Nat) (v : Value) (h : Below B a X) : Below B a (X.setCell ⟨gx, o, none⟩ v) :=
  ⟨h.os, h.tape, h.output, Nat.le_trans h.size (grown_set X gx o v).size, fun k hk => (Below.heap_setCell _ _ _ k (by show k ≠ gx; omega)).trans (h.block k hk)⟩
theorem below_sets {B gx : Nat} {a : World} (hx : B ≤ gx) : ∀ (vs : List Value) {X : World} (o : Nat), Below B a X → Below B a (X.setCells gx o vs)
  | [], _, _, h => h
  | v :: vs, _, o, h => below_sets hx vs (o + 1) (below_set hx o v h)
theorem there_box {w : World} {g : Nat} {t : TypeId} {cs : Array Value} (h : Box w g t cs) (o m : Nat) (hm : o + m ≤ cs.size) : w.there g o m := fun j hj => ⟨by rw [h.cell, Array.getElem?_eq_getElem (by omega)]; rfl, h.free _⟩
theorem infoX : (Try.prog.info? 39).map (·.size) = some 10 := by kernel_rfl
theorem infoM : (Try.prog.info? 41).map (·.size) = some 18 := by kernel_rfl
theorem results_cell_tmp {P : Program} {fn : Func} {p u : Tmp} {ty : TypeId} (h : fn.results = #[.cell p ty, .tmp u]) (tmps : Array Value) (w : World) (g : Nat) (t : TypeId) (cs : Array Value) (fr : Nat × Nat) (d : TypeDesc)
    (hp : tmps.getD p undef = .pointer (some ⟨g, 0, none⟩)) (hg : w.heap[g]? = some (.cells cs t fr)) (hu : P.underlying ty = some d) (hd : (match d with | .struct _ | .array _ _ => true | _ => false) = true) (hi : (P.info? ty).map (·.size) = some cs.size) :
    (results fn tmps).run P w = .ok (.tuple #[.agg cs, tmps.getD u undef]) w := by
  have hp' : tmps[p]?.getD undef = .pointer (some ⟨g, 0, none⟩) := by simpa using hp
  simp [results, h, hp', asAddr, run_loadVar_row w g t ty cs fr d hg hu hd hi]
/-- A whole struct is stored into a block that is known whole. -/
theorem box_store {ops : Array Oper} {rest : List Oper} {op : Oper} {a : Act} {W : World} {Q : Exit → Act → World → Prop} (hgd : op.guard = none) (ty : TypeId) (x y : Operand) (ho : op.op = .store ty x y)
    {gx : Nat} {t : TypeId} {cs : Array Value} (vs : Array Value) (hx : a.eval x = .pointer (some ⟨gx, 0, none⟩)) (hy : a.eval y = .agg vs) (h : Box W gx t cs) (hsz : vs.size ≤ cs.size)
    (hi : (Try.prog.info? ty).map (·.size) = some vs.size) (h1 : vs.all (·.oneCell') = true)
    (hk : ∀ w', Box w' gx t (setAll cs 0 vs.toList) → (∀ (B : Nat) (a : World), B ≤ gx → Below B a W → Below B a w') → wpList Try.prog ops Q rest (a.put op.dst undef) w') : wpList Try.prog ops Q (op :: rest) a W :=
  wpList_store_mid hgd ty x y ho gx 0 vs hx hy (there_box h 0 vs.size (by omega)) hi h1 (hk _ (h.sets vs.toList 0) fun B a hB hb => below_sets hB vs.toList 0 hb)
/-- The same at a place within, and what stays. -/
theorem box_store_at {ops : Array Oper} {rest : List Oper} {op : Oper} {a : Act} {W : World} {Q : Exit → Act → World → Prop} (hgd : op.guard = none) (ty : TypeId) (x y : Operand) (ho : op.op = .store ty x y)
    {gx : Nat} {t : TypeId} {cs : Array Value} (off : Nat) (vs : Array Value) (hx : a.eval x = .pointer (some ⟨gx, off, none⟩)) (hy : a.eval y = .agg vs) (h : Box W gx t cs) (hsz : off + vs.size ≤ cs.size)
    (hi : (Try.prog.info? ty).map (·.size) = some vs.size) (h1 : vs.all (·.oneCell') = true)
    (hk : ∀ w', Box w' gx t (setAll cs off vs.toList) → (∀ (B : Nat) (a : World), B ≤ gx → Below B a W → Below B a w') → (∀ k, k ≠ gx → w'.heap[k]? = W.heap[k]?) → w'.heap.size = W.heap.size → wpList Try.prog ops Q rest (a.put op.dst undef) w') : wpList Try.prog ops Q (op :: rest) a W :=
  wpList_store_mid hgd ty x y ho gx off vs hx hy (there_box h off vs.size hsz) hi h1 (hk _ (h.sets vs.toList off) (fun _ _ hB hb => below_sets hB vs.toList off hb) (fun k hne => block_sets gx vs.toList W off k hne) (size_sets gx vs.toList W off))
theorem Box.at {w w' : World} {g gx : Nat} {t : TypeId} {cs : Array Value} (h : Box w g t cs) (hw : ∀ k, k ≠ gx → w'.heap[k]? = w.heap[k]?) (hne : g ≠ gx) : Box w' g t cs := (hw g hne).trans h
/-- A whole struct is loaded, also under a guard that is met. -/
theorem box_load {P : Program} {o : Oper} {a : Act} {w : World} {K : Act → World → Prop} {Q : Exit → Act → World → Prop} {g : Nat} {t : TypeId} {cs : Array Value} (h : Box w g t cs) (ty : TypeId) (x : Operand) (ho : o.op = .load ty x) (hx : a.eval x = .pointer (some ⟨g, 0, none⟩)) (d : TypeDesc)
    (hu : P.underlying ty = some d) (hd : (match d with | .struct _ | .array _ _ => true | _ => false) = true) (hi : (P.info? ty).map (·.size) = some cs.size) (hk : K (a.put o.dst (.agg cs)) w) : o.wp P a w K Q :=
  wp_load_row ty x ho g hx t cs (0, 0) d h hu hd hi hk
theorem Box.range {w : World} {g : Nat} {t : TypeId} {cs : Array Value} (h : Box w g t cs) (o : Nat) : w.rangeAt g o (cs.toList.drop o) := by
  intro j v hv
  rw [h.cell, ← hv, List.getElem?_drop]; simp
end Go.Proofs.Ytblkdmbkkimbpaa
