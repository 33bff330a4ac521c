/-
  Layer 7: slices of messages, sessions as cells; arguments that are sessions, opened.
-/
import Derived.Test.YtblkdmbkkimbpaaReseqOpen
import Derived.Test.YtblkdmbkkimbpaaSessMath
namespace Go.Proofs.Ytblkdmbkkimbpaa
open Go.ChangeShapes Go.WideShapes Go.RowKit Go.Deep

def mcells (l : List Mg) : List Value := l.flatMap fun m => m.arr.toList
theorem Mg.arr_len (m : Mg) : m.arr.toList.length = 18 := rfl
theorem mcells_len (l : List Mg) : (mcells l).length = l.length * 18 := by
  unfold mcells
  induction l with
  | nil => rfl
  | cons x r ih => rw [List.flatMap_cons, List.length_append, ih, List.length_cons, Mg.arr_len]; omega
theorem mcells_app (a b : List Mg) : mcells (a ++ b) = mcells a ++ mcells b := by simp [mcells]
theorem mcells_one (l : List Mg) : ∀ u ∈ mcells l, u.oneCell' = true := by
  intro u hu
  obtain ⟨x, _, h⟩ := List.mem_flatMap.1 hu
  have := arr_one x
  rw [Array.all_eq_true'] at this
  exact this u (by simpa using h)
theorem mcells_drop (l : List Mg) (k : Nat) : (mcells l).drop (k * 18) = mcells (l.drop k) := by
  induction k generalizing l with
  | zero => simp
  | succ k ih =>
    cases l with
    | nil => simp [mcells]
    | cons x r =>
      rw [List.drop_succ_cons, ← ih r, show (k + 1) * 18 = 18 + k * 18 by omega, ← List.drop_drop]
      congr 1
theorem mcells_get {l : List Mg} {k : Nat} (hk : k < l.length) (j : Nat) (v : Value) (hv : l[k].arr.toList[j]? = some v) : (mcells l)[k * 18 + j]? = some v := by
  have hj : j < 18 := by
    have := (List.getElem?_eq_some_iff.1 hv).1
    rwa [Mg.arr_len] at this
  have h1 : (mcells l)[k * 18 + j]? = ((mcells l).drop (k * 18))[j]? := by rw [List.getElem?_drop]
  rw [h1, mcells_drop, List.drop_eq_getElem_cons hk, show mcells (l[k] :: l.drop (k + 1)) = l[k].arr.toList ++ mcells (l.drop (k + 1)) from rfl, List.getElem?_append_left (by rw [Mg.arr_len]; exact hj)]
  exact hv
theorem Row.msg {w : World} {A : Option Addr} {l : List Mg} (h : Row w A (mcells l)) {k : Nat} (hk : k < l.length) :
    ∃ b off, A = some ⟨b, off, none⟩ ∧ w.rangeAt b (off + k * 18) l[k].arr.toList := by
  rcases h with h | ⟨b, off, ha, hc⟩
  · have := congrArg List.length h; rw [mcells_len, List.length_nil] at this; omega
  · exact ⟨b, off, ha, fun j v hv => by rw [Nat.add_assoc]; exact hc _ _ (mcells_get hk j v hv)⟩
/-- A session's cells. -/
def sesArr (s : Ses) (A : Option Addr) (n c : Nat) : Array Value := #[.int .i64 s.st, .int .i64 s.ln.next, .slice A n c, .int .i64 s.out, .int .i64 s.every, .int .i64 s.heard, .int .i64 s.said, .int .i64 s.asked, .int .i64 s.at_, .bool s.tested]
theorem infoS : (Try.prog.info? 29).map (·.size) = some 10 := by kernel_rfl
theorem ses_one (s : Ses) (A : Option Addr) (n c : Nat) : (sesArr s A n c).all (·.oneCell') = true := by unfold sesArr; simp [Value.oneCell']
/-- A slice of messages, or of items, stays as it was where a block of few cells is written. -/
theorem Sl.farM {w w' : World} {A : Option Addr} {n c g : Nat} {t : TypeId} {cs : Array Value} {l : List Mg} (h : Sl w A n c 18 (mcells l)) (hb : Box w g t cs) (hs : cs.size ≤ 10) (hw : ∀ k, k ≠ g → w'.heap[k]? = w.heap[k]?) : Sl w' A n c 18 (mcells l) := by
  refine ⟨h.len, h.le, h.cap, h.nil, ?_⟩
  cases l with
  | nil => exact .inl rfl
  | cons y r =>
    rcases h.row with h0 | ⟨b, off, rfl, hc⟩
    · exact absurd h0 (by show y.arr.toList ++ mcells r ≠ []; unfold Mg.arr; simp)
    · have hne : b ≠ g := fun e => by
        subst e
        have h2 := hc 17 (.int .i64 y.ex.time) rfl
        rw [hb.cell, Array.getElem?_eq_none (by omega)] at h2
        cases h2
      refine .inr ⟨b, off, rfl, fun i u hu => ?_⟩
      have := hc i u hu
      unfold World.cell? at this ⊢
      rw [show w'.heap[b]? = w.heap[b]? from hw b hne]
      exact this
theorem Sl.farI {w w' : World} {A : Option Addr} {n c g : Nat} {t : TypeId} {cs : Array Value} {l : List Itm} (h : Sl w A n c 20 (icells l)) (hb : Box w g t cs) (hs : cs.size ≤ 10) (hw : ∀ k, k ≠ g → w'.heap[k]? = w.heap[k]?) : Sl w' A n c 20 (icells l) := by
  refine ⟨h.len, h.le, h.cap, h.nil, ?_⟩
  cases l with
  | nil => exact .inl rfl
  | cons y r =>
    rcases h.row with h0 | ⟨b, off, rfl, hc⟩
    · exact absurd h0 (by show y.cells ++ icells r ≠ []; unfold Itm.cells; simp)
    · have hne : b ≠ g := fun e => by
        subst e
        have h2 := hc 19 (.int .i64 y.m.ex.time) rfl
        rw [hb.cell, Array.getElem?_eq_none (by omega)] at h2
        cases h2
      refine .inr ⟨b, off, rfl, fun i u hu => ?_⟩
      have := hc i u hu
      unfold World.cell? at this ⊢
      rw [show w'.heap[b]? = w.heap[b]? from hw b hne]
      exact this
/-- What Connect and Tick answer. -/
def SayPost (r : Ses × List Mg × Int) (w : World) (e : Ending) (w' : World) : Prop :=
  ∃ A n c B m d, e = .returned (.tuple #[.agg (sesArr r.1 A n c), .slice B m d, .int .i64 r.2.2]) ∧ r.1.ln.held.length = n ∧ r.2.1.length = m ∧ Sl w' A n c 20 (icells r.1.ln.held) ∧ Sl w' B m d 18 (mcells r.2.1) ∧ Below w.heap.size w w'
/-- What Come answers. -/
def ComeSPost (r : Ses × List Mg × List Mg × Bool × Int) (w : World) (e : Ending) (w' : World) : Prop :=
  ∃ A n c B m d B' m' d', e = .returned (.tuple #[.agg (sesArr r.1 A n c), .slice B m d, .slice B' m' d', .bool r.2.2.2.1, .int .i64 r.2.2.2.2]) ∧ r.1.ln.held.length = n ∧ r.2.1.length = m ∧ r.2.2.1.length = m' ∧
    Sl w' A n c 20 (icells r.1.ln.held) ∧ Sl w' B m d 18 (mcells r.2.1) ∧ Sl w' B' m' d' 18 (mcells r.2.2.1) ∧ Below w.heap.size w w'
/-- What Come answers, and that what is held lies in a new block. -/
def ComeAPost (r : Ses × List Mg × List Mg × Bool × Int) (w : World) (e : Ending) (w' : World) : Prop :=
  ∃ A n c B m d B' m' d', (∀ a, A = some a → w.heap.size ≤ a.block) ∧ e = .returned (.tuple #[.agg (sesArr r.1 A n c), .slice B m d, .slice B' m' d', .bool r.2.2.2.1, .int .i64 r.2.2.2.2]) ∧ r.1.ln.held.length = n ∧ r.2.1.length = m ∧ r.2.2.1.length = m' ∧
    Sl w' A n c 20 (icells r.1.ln.held) ∧ Sl w' B m d 18 (mcells r.2.1) ∧ Sl w' B' m' d' 18 (mcells r.2.2.1) ∧ Below w.heap.size w w'
/-- The contracts of layer 7's calls. -/
structure SessC : Prop where
  new : ∀ (every : Int) (V : World), 1 ≤ every → every ≤ 1048576 → Calls Try.prog 7 #[.int .i64 every] V fun e w' => e = .returned (.tuple #[.agg (sesArr (newS every) none 0 0), .int .i64 0]) ∧ Below V.heap.size V w'
  right : ∀ (s : Ses) (A : Option Addr) (n c : Nat) (V : World), s.ln.held.length = n → Sl V A n c 20 (icells s.ln.held) → Calls Try.prog 11 #[.agg (sesArr s A n c)] V fun e w' => e = .returned (.bool s.rightB) ∧ Below V.heap.size V w'
  connect : ∀ (s : Ses) (A : Option Addr) (n c : Nat) (now : Int) (V : World), s.ln.held.length = n → n ≤ 100000 → Sl V A n c 20 (icells s.ln.held) → Calls Try.prog 8 #[.agg (sesArr s A n c), .int .i64 now] V (SayPost (connectS s now) V)
  comeA : ∀ (s : Ses) (A : Option Addr) (n c : Nat) (m : Mg) (now : Int) (V : World), s.ln.held.length = n → n ≤ 100000 → Sl V A n c 20 (icells s.ln.held) → m.In → Calls Try.prog 9 #[.agg (sesArr s A n c), .agg m.arr, .int .i64 now] V (ComeAPost (comeS s m now) V)
  tick : ∀ (s : Ses) (A : Option Addr) (n c : Nat) (now : Int) (V : World), s.ln.held.length = n → n ≤ 100000 → Sl V A n c 20 (icells s.ln.held) → Calls Try.prog 10 #[.agg (sesArr s A n c), .int .i64 now] V (SayPost (tickS s now) V)
  drop : ∀ (s : Ses) (A : Option Addr) (n c : Nat) (V : World), s.ln.held.length = n → n ≤ 100000 → Sl V A n c 20 (icells s.ln.held) → Calls Try.prog 12 #[.agg (sesArr s A n c)] V fun e w' => ∃ A' n' c', e = .returned (.agg (sesArr (dropS s) A' n' c')) ∧ (dropS s).ln.held.length = n' ∧ Sl w' A' n' c' 20 (icells (dropS s).ln.held) ∧ Below V.heap.size V w'
theorem SessC.come (C : SessC) (s : Ses) (A : Option Addr) (n c : Nat) (m : Mg) (now : Int) (V : World) (hl : s.ln.held.length = n) (hn : n ≤ 100000) (h : Sl V A n c 20 (icells s.ln.held)) (hm : m.In) :
    Calls Try.prog 9 #[.agg (sesArr s A n c), .agg m.arr, .int .i64 now] V (ComeSPost (comeS s m now) V) :=
  (C.comeA s A n c m now V hl hn h hm).mono fun _ _ ⟨A, n, c, B, m, d, B', m', d', _, h⟩ => ⟨A, n, c, B, m, d, B', m', d', h⟩
end Go.Proofs.Ytblkdmbkkimbpaa
