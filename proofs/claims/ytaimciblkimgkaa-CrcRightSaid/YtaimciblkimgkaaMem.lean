/-
  Slices that read as lists of cells: what all layers share. Nothing of the program stands here.
-/
import Derived.Below
import Derived.Laws.OwnMore
import Derived.Laws.AppendOwn
import Derived.Laws.AppendOwnNone
import Derived.Lib.AppendStr
import Derived.Lib.BytesEntry
import Derived.Lib.Hide
import Derived.Deep.Draws
import Derived.Deep.AppendLies
import Derived.RowKit
namespace Go.Proofs.Ytaimciblkimgkaa
open Go.RowKit

theorem addr_at (b off i : Nat) : Addr.add ⟨b, off, none⟩ i = ⟨b, off + i, none⟩ := by
  unfold Addr.add; split
  · rename_i h; subst h; rfl
  · rfl
theorem cell_lt {w : World} {b o : Nat} {u : Value} (h : w.cell? ⟨b, o, none⟩ = some u) : b < w.heap.size := by
  rcases Nat.lt_or_ge b w.heap.size with hlt | hge
  · exact hlt
  · simp [World.cell?, Array.getElem?_eq_none hge] at h

theorem bcell {W w1 : World} (hb : Below W.heap.size W w1) : (∀ b o, b < W.heap.size → w1.cell? ⟨b, o, none⟩ = W.cell? ⟨b, o, none⟩) ∧ (∀ b o, b < W.heap.size → w1.frozen? ⟨b, o, none⟩ = W.frozen? ⟨b, o, none⟩) :=
  ⟨fun b o h => hb.cell (p := ⟨b, o, none⟩) h, fun b o h => hb.frozen (p := ⟨b, o, none⟩) h⟩
/-- The slice with this head reads as these cells. -/
def Row (w : World) (A : Option Addr) (cs : List Value) : Prop := cs = [] ∨ ∃ b off, A = some ⟨b, off, none⟩ ∧ ∀ i u, cs[i]? = some u → w.cell? ⟨b, off + i, none⟩ = some u
theorem Row.nil (w : World) (A : Option Addr) : Row w A [] := .inl rfl
theorem Row.keep {w w' : World} {A : Option Addr} {cs : List Value} (h : Row w A cs) (hk : ∀ b o, b < w.heap.size → w'.cell? ⟨b, o, none⟩ = w.cell? ⟨b, o, none⟩) : Row w' A cs := by
  rcases h with h | ⟨b, off, ha, hc⟩
  · exact .inl h
  · exact .inr ⟨b, off, ha, fun i u hu => (hk b _ (cell_lt (hc i u hu))).trans (hc i u hu)⟩
theorem Row.on {w w' : World} {A : Option Addr} {cs : List Value} (h : Row w A cs) (hb : Below w.heap.size w w') : Row w' A cs :=
  h.keep fun b o hlt => hb.cell (p := ⟨b, o, none⟩) hlt
theorem Row.take {w : World} {A : Option Addr} {cs : List Value} (h : Row w A cs) (k : Nat) : Row w A (cs.take k) := by
  rcases h with h | ⟨b, off, ha, hc⟩
  · subst h; exact .inl (by simp)
  · refine .inr ⟨b, off, ha, fun i u hu => hc i u ?_⟩
    rw [List.getElem?_take] at hu
    split at hu
    · exact hu
    · cases hu
theorem Row.drop {w : World} {A : Option Addr} {cs : List Value} (h : Row w A cs) (k : Nat) : Row w (A.map (fun x => x.add k)) (cs.drop k) := by
  rcases h with h | ⟨b, off, ha, hc⟩
  · subst h; exact .inl (by simp)
  · refine .inr ⟨b, off + k, by rw [ha]; exact congrArg some (addr_at b off k), fun i u hu => ?_⟩
    rw [List.getElem?_drop] at hu
    rw [Nat.add_assoc]; exact hc _ u hu
theorem Row.of_own {w : World} {base size n c : Nat} {e : TypeId} {A : Option Addr} {xs : List Value} (h : w.ownsRow base e size (.slice A n c) n xs) : Row w A xs := by
  rcases Nat.eq_zero_or_pos n with h0 | hn
  · subst h0
    left
    have := h.1
    rw [Nat.zero_mul] at this
    exact List.eq_nil_of_length_eq_zero this
  · right
    obtain ⟨g, cap, hv, _, hlt⟩ := h.form hn
    have hA : A = some ⟨g, 0, none⟩ := by injection hv
    subst hA
    refine ⟨g, 0, rfl, fun i u hu => ?_⟩
    have := h.cells (g := g) rfl i u hu
    rwa [addr_at] at this
/-- A slice's cut: what the model says of its head when the cut is at the capacity. -/
theorem Row.cut {w : World} {A : Option Addr} {cs : List Value} (h : Row w A cs) (k cap : Nat) (hc : cs.length ≤ cap) :
    Row w (if cap = k then A else A.map (fun x => x.add k)) (cs.drop k) := by
  split
  · rename_i he
    rw [List.drop_eq_nil_of_le (by omega)]; exact .inl rfl
  · exact h.drop k

/-- A head as all heads are that the program makes. -/
def Fm (A : Option Addr) : Prop := A = none ∨ ∃ b off, A = some ⟨b, off, none⟩
/-- A slice value that reads as these cells. -/
structure Sl (w : World) (A : Option Addr) (n c size : Nat) (cs : List Value) : Prop where
  len : cs.length = n * size
  le : n ≤ c
  cap : c ≤ maxLen
  nil : A = none → n = 0 ∧ c = 0
  row : Row w A cs
theorem Sl.on {w w' : World} {A : Option Addr} {n c size : Nat} {cs : List Value} (h : Sl w A n c size cs) (hb : Below w.heap.size w w') : Sl w' A n c size cs := ⟨h.len, h.le, h.cap, h.nil, h.row.on hb⟩
theorem Sl.none_ (w : World) (size : Nat) : Sl w none 0 0 size [] := ⟨by simp, Nat.le_refl _, Nat.zero_le _, fun _ => ⟨rfl, rfl⟩, .inl rfl⟩
theorem Sl.of_own {w : World} {base size n : Nat} {e : TypeId} {v : Value} {xs : List Value} (h : w.ownsRow base e size v n xs) : ∃ A c, v = .slice A n c ∧ Sl w A n c size xs ∧ Fm A := by
  rcases h.2 with ⟨rfl, rfl⟩ | ⟨g, cap, cur, rfl, hb, hg, hn, hm, _, _⟩
  · exact ⟨none, 0, rfl, ⟨h.1, Nat.le_refl _, Nat.zero_le _, (fun _ => ⟨rfl, rfl⟩), Row.of_own h⟩, .inl rfl⟩
  · exact ⟨some ⟨g, 0, none⟩, cap, rfl, ⟨h.1, hn, hm, (fun h => by cases h), Row.of_own h⟩, .inr ⟨_, _, rfl⟩⟩
/-- A bound of a world's growth, from an append on a row of the call's own. -/
theorem below_own {B : Nat} {a w w' : World} {e : TypeId} {size n : Nat} {v : Value} {xs : List Value} (h : Below B a w) (hg : w.grownBy w' v.ownBlock) (hB : B ≤ w.heap.size)
    (ho : w.ownsRow B e size v n xs) : Below B a w' := by
  refine h.grown hg hB fun k hk => ?_
  rcases ho.2 with ⟨rfl, _⟩ | ⟨g, cap, cur, rfl, hb, _⟩
  · cases hk
  · simp only [Value.ownBlock] at hk; injection hk with hk; omega
theorem own_blk_ne {w : World} {base size n g : Nat} {e t : TypeId} {v : Value} {xs : List Value} {cs : Array Value} (ho : w.ownsRow base e size v n xs) (hb : w.heap[g]? = some (.cells cs t (0, 0))) (hne : e ≠ t) : some g ≠ v.ownBlock := by
  rcases ho.2 with ⟨rfl, _⟩ | ⟨g', cap, cur, rfl, _, hh, _⟩
  · intro h; cases h
  · intro h; simp only [Value.ownBlock] at h; injection h with h; subst h; rw [hb] at hh; injection hh with hh; injection hh with _ h2; exact hne h2.symm

theorem own_on {w w' : World} {base size n : Nat} {e : TypeId} {v : Value} {xs : List Value} (h : w.ownsRow base e size v n xs) (hb : Below w.heap.size w w') : w'.ownsRow base e size v n xs :=
  h.kept (row := none) ⟨hb.os, hb.tape, hb.output, hb.size, fun i hi _ => hb.block i hi⟩ (by cases v.ownBlock with | none => exact .inl rfl | some _ => exact .inr (by simp))
theorem own_cast {w : World} {base size n m : Nat} {e : TypeId} {v : Value} {xs ys : List Value} (h : w.ownsRow base e size v n xs) (hx : xs = ys) (hn : n = m) : w.ownsRow base e size v m ys := by subst hx; subst hn; exact h
/-- A block of the call's own, known whole. -/
def Box (w : World) (g : Nat) (t : TypeId) (cs : Array Value) : Prop := w.heap[g]? = some (.cells cs t (0, 0))
theorem Box.new (w : World) (cs : Array Value) (t : TypeId) : Box (w.alloc (.cells cs t)) w.heap.size t cs := heap_alloc_new w _
theorem Box.lt {w : World} {g : Nat} {t : TypeId} {cs : Array Value} (h : Box w g t cs) : g < w.heap.size := by
  rcases Nat.lt_or_ge g w.heap.size with hlt | hge
  · exact hlt
  · unfold Box at h; rw [Array.getElem?_eq_none hge] at h; cases h
theorem Box.cell {w : World} {g : Nat} {t : TypeId} {cs : Array Value} (h : Box w g t cs) (i : Nat) : w.cell? ⟨g, i, none⟩ = cs[i]? := cell_of_row w g i cs t (0, 0) h
theorem Box.on {w w' : World} {g : Nat} {t : TypeId} {cs : Array Value} (h : Box w g t cs) (hb : Below w.heap.size w w') : Box w' g t cs := (hb.block g h.lt).trans h
theorem Box.alloc {w : World} {g : Nat} {t : TypeId} {cs : Array Value} (h : Box w g t cs) (o : Obj) : Box (w.alloc o) g t cs := (Below.heap_alloc w o g h.lt).trans h
theorem Box.grown {w w' : World} {base size n g : Nat} {e t : TypeId} {v : Value} {xs : List Value} {cs : Array Value} (h : Box w g t cs) (hg : w.grownBy w' v.ownBlock) (ho : w.ownsRow base e size v n xs) (hne : e ≠ t) : Box w' g t cs :=
  (hg.block g h.lt (own_blk_ne ho h hne)).trans h
theorem Box.free {w : World} {g : Nat} {t : TypeId} {cs : Array Value} (h : Box w g t cs) (i : Nat) : w.frozen? ⟨g, i, none⟩ = false := by
  unfold Box at h
  simp [World.frozen?, h]

/-- A list of bytes as cells. -/
def bcells (l : List UInt8) : List Value := l.map fun c => .int .u8 c.toNat
theorem bcells_len (l : List UInt8) : (bcells l).length = l.length := by simp [bcells]
theorem bcells_app (a b : List UInt8) : bcells (a ++ b) = bcells a ++ bcells b := by simp [bcells]
theorem bcells_str (s : ByteArray) : Lib.strCells s = bcells s.data.toList := rfl
theorem bcells_take (l : List UInt8) (k : Nat) : (bcells l).take k = bcells (l.take k) := by simp [bcells]
theorem bcells_drop (l : List UInt8) (k : Nat) : (bcells l).drop k = bcells (l.drop k) := by simp [bcells]
theorem bcells_get {l : List UInt8} {i : Nat} (h : i < l.length) : (bcells l)[i]? = some (.int .u8 l[i].toNat) := by simp [bcells, h]
theorem bcells_inj {a b : List UInt8} (h : bcells a = bcells b) : a = b := by
  induction a generalizing b with
  | nil => cases b with
    | nil => rfl
    | cons _ _ => cases h
  | cons x a ih => cases b with
    | nil => cases h
    | cons y b =>
      simp only [bcells, List.map_cons, List.cons.injEq, Value.int.injEq] at h
      obtain ⟨⟨_, h1⟩, h2⟩ := h
      rw [ih h2]
      congr 1
      exact UInt8.toNat_inj.1 (by omega)
theorem Row.byte {w : World} {A : Option Addr} {l : List UInt8} (h : Row w A (bcells l)) {k : Nat} (hk : k < l.length) :
    ∃ b off, A = some ⟨b, off, none⟩ ∧ w.cell? ⟨b, off + k, none⟩ = some (.int .u8 l[k].toNat) := by
  rcases h with h | ⟨b, off, ha, hc⟩
  · have := congrArg List.length h; rw [bcells_len, List.length_nil] at this; omega
  · exact ⟨b, off, ha, hc k _ (bcells_get hk)⟩
end Go.Proofs.Ytaimciblkimgkaa
