/-
  Layer 7's laws: SessFills: what the walk wants.
-/
import Derived.Test.YtblkdmbkkimbpaaLaw07
import Derived.Test.YtblkdmbkkimbpaaSessTk
namespace Go.Proofs.Ytblkdmbkkimbpaa
open Go.RowKit

def boolcells (l : List Bool) : List Value := l.flatMap fun b => [.bool b]
theorem boolcells_get {l : List Bool} {k : Nat} (h : k < l.length) : (boolcells l)[k]? = some (.bool l[k]) := by
  induction l generalizing k with
  | nil => simp at h
  | cons b r ih =>
    cases k with
    | zero => rfl
    | succ k => exact ih (k := k) (by simpa using h)
theorem boolcells_len (l : List Bool) : (boolcells l).length = l.length := by
  induction l with
  | nil => rfl
  | cons b r ih => show (boolcells r).length + 1 = _; rw [ih]; rfl
theorem Row.bool {w : World} {A : Option Addr} {l : List Bool} (h : Row w A (boolcells l)) {k : Nat} (hk : k < l.length) : ∃ b off, A = some ⟨b, off, none⟩ ∧ w.cell? ⟨b, off + k, none⟩ = some (.bool l[k]) := by
  rcases h with h | ⟨b, off, ha, hc⟩
  · have := congrArg List.length h; rw [boolcells_len, List.length_nil] at this; omega
  · exact ⟨b, off, ha, hc k _ (boolcells_get hk)⟩
theorem infoX10 : (Try.prog.info? 39).map (·.size) = some 10 := by kernel_rfl
theorem run_build_rep (k : Int) (W : World) : (Instr.build 41 #[(0, .int .i64 7), (1, .int .i64 k), (8, .agg exF.arr)]).run Try.prog W = .ok (.agg (repM k false).arr) W := by kernel_rfl
theorem run_build_repC (k : Int) (W : World) : (Instr.build 41 #[(0, .int .i64 7), (1, .int .i64 k), (3, .bool true), (8, .agg exF.arr)]).run Try.prog W = .ok (.agg (repM k true).arr) W := by kernel_rfl
theorem wpList_build_rep {ops : Array Oper} {rest : List Oper} {o : Oper} {a : Act} {W : World} {Q : Exit → Act → World → Prop} (hgd : o.guard = none) (x y : Operand) (ho : o.op = .build 41 #[(0, .const (.int .i64 7)), (1, x), (8, y)])
    (k : Int) (hx : a.eval x = .int .i64 k) (hy : a.eval y = .agg exF.arr) (hk : wpList Try.prog ops Q rest (a.put o.dst (.agg (repM k false).arr)) W) : wpList Try.prog ops Q (o :: rest) a W := by
  refine wpList_plain hgd fun _ hK => ?_
  have h := run_build_rep k W
  have hc : a.eval (.const (.int .i64 7)) = .int .i64 7 := rfl
  unfold Oper.wp execOp
  simp only [ho, List.map_toArray, List.map_cons, List.map_nil, hx, hy, hc, Sem.run_bind, Sem.run_pure, Result.andThen_ok, h]
  exact hK _ _ hk
theorem wpList_build_repC {ops : Array Oper} {rest : List Oper} {o : Oper} {a : Act} {W : World} {Q : Exit → Act → World → Prop} (hgd : o.guard = none) (x y : Operand) (ho : o.op = .build 41 #[(0, .const (.int .i64 7)), (1, x), (3, .const (.bool true)), (8, y)])
    (k : Int) (hx : a.eval x = .int .i64 k) (hy : a.eval y = .agg exF.arr) (hk : wpList Try.prog ops Q rest (a.put o.dst (.agg (repM k true).arr)) W) : wpList Try.prog ops Q (o :: rest) a W := by
  refine wpList_plain hgd fun _ hK => ?_
  have h := run_build_repC k W
  have hc : a.eval (.const (.int .i64 7)) = .int .i64 7 := rfl
  have hb : a.eval (.const (.bool true)) = .bool true := rfl
  unfold Oper.wp execOp
  simp only [ho, List.map_toArray, List.map_cons, List.map_nil, hx, hy, hc, hb, Sem.run_bind, Sem.run_pure, Result.andThen_ok, h]
  exact hK _ _ hk
theorem exF_in : exF.In := ⟨by decide, by decide, by decide, by decide, by decide, by decide, by decide, by decide, by decide⟩
theorem rep_in {k : Int} {c : Bool} (h : 0 ≤ k ∧ k ≤ 1000000) : (repM k c).In :=
  ⟨(show -9223372036854775808 ≤ (7 : Int) ∧ (7 : Int) ≤ 9223372036854775807 by decide), (show -9223372036854775808 ≤ k ∧ k ≤ 9223372036854775807 by omega), (show -9223372036854775808 ≤ (0 : Int) ∧ (0 : Int) ≤ 9223372036854775807 by decide), (show -9223372036854775808 ≤ (0 : Int) ∧ (0 : Int) ≤ 9223372036854775807 by decide), (show -9223372036854775808 ≤ (0 : Int) ∧ (0 : Int) ≤ 9223372036854775807 by decide), Nat.zero_le _, exF_in⟩
/-- The session's variable, the execution's, what was asked, what is held. -/
structure FR (w : World) (g x : Nat) (s : Ses) (A : Option Addr) (n c : Nat) (v : Value) (L : List Mg) (W : World) : Prop where
  mj : MJ w [(g, 29, sesArr s A n c), (x, 39, exF.arr)] v L W
  hn : s.ln.held.length = n
  sl : Sl W A n c 20 (icells s.ln.held)
theorem FR.on {w W W' : World} {g x : Nat} {s : Ses} {A : Option Addr} {n c : Nat} {v : Value} {L : List Mg} (h : FR w g x s A n c v L W) (hb : Below W.heap.size W W') : FR w g x s A n c v L W' := ⟨h.mj.on hb, h.hn, h.sl.on hb⟩
/-- A slice stays where another block is written or made. -/
theorem Sl.keepB {W W' : World} {A : Option Addr} {n c size : Nat} {cs : List Value} {v : Value} (h : Sl W A n c size cs) (ha : ∀ a, A = some a → v.ownBlock ≠ some a.block) (hk : ∀ k, k < W.heap.size → v.ownBlock ≠ some k → W'.heap[k]? = W.heap[k]?) : Sl W' A n c size cs := by
  refine ⟨h.len, h.le, h.cap, h.nil, ?_⟩
  rcases h.row with h0 | ⟨b, off, rfl, hc⟩
  · exact .inl h0
  · refine .inr ⟨b, off, rfl, fun i u hu => ?_⟩
    have h1 := hc i u hu
    have h2 := hk b (cell_lt h1) (ha _ rfl)
    unfold World.cell? at h1 ⊢
    rw [show W'.heap[b]? = W.heap[b]? from h2]
    exact h1
theorem MJ.ne {w W : World} {bs : List (Nat × TypeId × Array Value)} {v : Value} {L : List Mg} (h : MJ w bs v L W) {A : Option Addr} (hf : ∀ a, A = some a → W.heap.size ≤ a.block) : ∀ a, A = some a → v.ownBlock ≠ some a.block := fun a e h2 => by
  have h1 := own_blk_lt h.own h2
  have := hf a e
  omega
theorem held_right {s : Ses} (h : s.R) : s.ln.held.length ≤ 64 := (right_len (k := s.ln.next) (l := s.ln.held) h.ln).1
theorem own_cap {W : World} {base n : Nat} {e : TypeId} {v : Value} {xs : List Value} (h : W.ownsRow base e 18 v n xs) : ∃ A c, v = .slice A n c ∧ n ≤ c ∧ c ≤ 9223372036854775807 := by
  obtain ⟨A, c, he, hs, _⟩ := Sl.of_own h
  exact ⟨A, c, he, hs.le, by have := hs.cap; unfold maxLen at this; exact this⟩
/-- Within a batch, or behind it. -/
def BS (n : Int) (j : Nat) (b h : Int) (r : List Int) (q : Int) (s : Ses) (L : List Mg) (cnt : Int) : Prop :=
  (∃ o, PB n j s q b o h r L ∧ q ≤ b ∧ cnt = min q n - 2) ∨ (q = b + 1 ∧ ∃ k a o hs, P2 n (j + 1) s k a o hs L ∧ cnt = min k n - 2)
theorem P2.lens {n : Int} {j : Nat} {s : Ses} {k a o : Int} {hs : List Int} {L : List Mg} (p : P2 n j s k a o hs L) (hn : n ≤ 62) : L.length ≤ 63 ∧ j ≤ 61 ∧ 2 ≤ k ∧ k ≤ n + 1 := by
  have h1 := p.k2
  have h2 := p.fs.ln.k1
  rcases p.asks with ⟨_, _, e⟩ | ⟨_, _, _, _, _, _, e, _⟩ <;> omega
theorem BS.lens {n : Int} {j : Nat} {b h : Int} {r : List Int} {q : Int} {s : Ses} {L : List Mg} {cnt : Int} (H : BS n j b h r q s L cnt) (hn : 2 ≤ n ∧ n ≤ 62) : L.length ≤ 63 ∧ 0 ≤ cnt ∧ cnt ≤ 60 ∧ s.R := by
  rcases H with ⟨o, p, _, hc⟩ | ⟨_, k, a, o, hs, p, hc⟩
  · have h1 := p.k2
    have h2 := p.fs.ln.k1
    have h3 := p.len
    exact ⟨by omega, by omega, by omega, p.fs.r⟩
  · have h1 := p.lens hn.2
    exact ⟨by omega, by omega, by omega, p.fs.r⟩
theorem BS.step {n : Int} {j : Nat} {b h : Int} {r : List Int} {q : Int} {s : Ses} {L : List Mg} {cnt : Int} (H : BS n j b h r q s L cnt) (hn : n ≤ 62) (hq : q ≤ b) :
    ∃ s' said told, comeS s (repM q true) 0 = (s', said, told, false, 0) ∧ BS n j b h r (q + 1) s' (L ++ said) (cnt + (told.length : Nat)) ∧ 0 ≤ q ∧ q ≤ 100 := by
  rcases H with ⟨o, p, _, hc⟩ | ⟨hqb, _⟩
  · have h1 := p.k2
    have h2 := p.fs.ln.k1
    have h3 := p.hb
    have h4 := p.top h (List.mem_cons_self ..)
    have hR : MsgR (repM q true) := repM_right (by omega)
    have hO : One n (itemM (repM q true)) := repM_one (by omega)
    rcases Int.lt_or_le q b with hlt | hge
    · obtain ⟨s', told, e, p', ht⟩ := p.mid hn hlt hR (.inl rfl) hO rfl
      exact ⟨s', [], told, e, .inl ⟨o, by rw [List.append_nil]; exact p', by omega, by omega⟩, by omega, by omega⟩
    · have hqe : q = b := by omega
      obtain ⟨s', said, told, k', a', o', hs', e, p', ht⟩ := p.fin hn hqe hR (.inl rfl) hO rfl
      exact ⟨s', said, told, e, .inr ⟨by omega, k', a', o', hs', p', by omega⟩, by omega, by omega⟩
  · omega
theorem get_app {L K : List Mg} {j : Nat} {m : Mg} (h : L[j]? = some m) : (L ++ K)[j]? = some m := by
  have hj := (List.getElem?_eq_some_iff.1 h).1
  rw [List.getElem?_append_left hj]
  exact h
/-- An element of what was asked is read. -/
theorem FR.msg {w W : World} {g x : Nat} {s : Ses} {A : Option Addr} {n c : Nat} {Av : Option Addr} {lv cv : Nat} {L : List Mg} (h : FR w g x s A n c (.slice Av lv cv) L W) (hlv : L.length = lv) {j : Nat} {m : Mg} (hm : L[j]? = some m) :
    ∃ b off, Av = some ⟨b, off, none⟩ ∧ W.cell? ⟨b, off + j * 18, none⟩ = some (.int .i64 m.kind) ∧ W.cell? ⟨b, off + j * 18 + 4, none⟩ = some (.int .i64 m.a) ∧ W.cell? ⟨b, off + j * 18 + 5, none⟩ = some (.int .i64 m.b) := by
  obtain ⟨hj, hme⟩ := List.getElem?_eq_some_iff.1 hm
  obtain ⟨b, off, e, hc⟩ := (h.mj.sl hlv).msg hj
  rw [hme] at hc
  refine ⟨b, off, e, ?_, hc 4 _ rfl, hc 5 _ rfl⟩
  have := hc 0 _ rfl
  rwa [Nat.add_zero] at this
end Go.Proofs.Ytblkdmbkkimbpaa
