/-
  Layer 4, feed: what the laws ask of In.
-/
import Derived.Test.YtacaipnjedfdoaaDoorFeedRef
namespace Go.Proofs.YtacaipnjedfdoaaDoor
open Go.RowKit

/-- In's contract. -/
def InOk : Prop := ∀ (A : Option Addr) (n c : Nat) (kb : List UInt8) (A' : Option Addr) (n' c' : Nat) (pb : List UInt8) (w : World), Sl w A n c 1 (bcells kb) → kb.length = n → Sl w A' n' c' 1 (bcells pb) → pb.length = n' → n ≤ 1000000 → n' ≤ 1000000 → FCtx w →
  Calls Tryd.prog 7 #[.slice A n c, .slice A' n' c'] w (InPost kb pb w)
/-- What In hands back where it goes on. -/
def InFine (T : List UInt8) (w : World) (e : Ending) (w' : World) : Prop :=
  ∃ A c B d, e = .returned (.tuple #[.slice A (feed T).2.2.length c, .slice B (feed T).1.length d, .int .i64 ((feed T).2.1 : Nat), .int .i64 0]) ∧ Sl w' A (feed T).2.2.length c 1 (bcells (feed T).2.2) ∧ SlL w' B (feed T).1.length d (feed T).1 ∧ Below w.heap.size w w'
/-- The same, and where what is kept lies. -/
def InFineT (T : List UInt8) (w : World) (e : Ending) (w' : World) : Prop :=
  ∃ A c B d, e = .returned (.tuple #[.slice A (feed T).2.2.length c, .slice B (feed T).1.length d, .int .i64 ((feed T).2.1 : Nat), .int .i64 0]) ∧ Sl w' A (feed T).2.2.length c 1 (bcells (feed T).2.2) ∧ SlL w' B (feed T).1.length d (feed T).1 ∧ Below w.heap.size w w' ∧ Typed w' A 5
theorem InFineT.plain {T : List UInt8} {w : World} (e : Ending) (w' : World) (h : InFineT T w e w') : InFine T w e w' := by
  obtain ⟨A, c, B, d, h1, h2, h3, h4, _⟩ := h
  exact ⟨A, c, B, d, h1, h2, h3, h4⟩
theorem InPost.fine {kb pb T : List UInt8} (hT : kb ++ pb = T) (h : ¬ (16384 ≤ kb.length ∨ 65536 < pb.length)) {w : World} (e : Ending) (w' : World) (hp : InPost kb pb w e w') : InFineT T w e w' := by
  subst hT
  obtain ⟨A, n, c, B, m, d, h1, h2, h3, h4, h5⟩ := hp
  obtain ⟨e1, e2⟩ := in_short h
  rw [e1, e2] at h1
  rw [e2] at h2 h3
  have hn : n = (feed (kb ++ pb)).2.2.length := by have := h2.len; rw [bcells_len] at this; omega
  have hm := h3.len
  subst hn
  subst hm
  exact ⟨A, c, B, d, h1, h2, h3, h4, h5 e1⟩
theorem in_fineT (hin : InOk) {A : Option Addr} {n c : Nat} {kb : List UInt8} {A' : Option Addr} {n' c' : Nat} {pb : List UInt8} {w : World} (h : Sl w A n c 1 (bcells kb)) (hn : kb.length = n) (h' : Sl w A' n' c' 1 (bcells pb)) (hn' : pb.length = n') (hs : n < 16384) (hs' : n' ≤ 65536) (hctx : FCtx w)
    (T : List UInt8) (hT : kb ++ pb = T) : Calls Tryd.prog 7 #[.slice A n c, .slice A' n' c'] w (InFineT T w) :=
  (hin A n c kb A' n' c' pb w h hn h' hn' (by omega) (by omega) hctx).mono fun e w' hp => hp.fine hT (by omega) e w'
theorem in_fine (hin : InOk) {A : Option Addr} {n c : Nat} {kb : List UInt8} {A' : Option Addr} {n' c' : Nat} {pb : List UInt8} {w : World} (h : Sl w A n c 1 (bcells kb)) (hn : kb.length = n) (h' : Sl w A' n' c' 1 (bcells pb)) (hn' : pb.length = n') (hs : n < 16384) (hs' : n' ≤ 65536) (hctx : FCtx w)
    (T : List UInt8) (hT : kb ++ pb = T) : Calls Tryd.prog 7 #[.slice A n c, .slice A' n' c'] w (InFine T w) :=
  (hin A n c kb A' n' c' pb w h hn h' hn' (by omega) (by omega) hctx).mono fun e w' hp => (hp.fine hT (by omega) e w').plain
theorem feed_lens (T : List UInt8) : (feed T).2.1 ≤ T.length ∧ (feed T).2.2.length ≤ T.length ∧ (feed T).1.length ≤ T.length := by
  have ⟨h1, h2⟩ := feed_counts T.length T (Nat.le_refl _)
  refine ⟨by omega, by omega, ?_⟩
  have : ∀ l : List (List UInt8), l.length ≤ (l.map fun x => (frmB x).length).sum := by
    intro l
    induction l with
    | nil => simp
    | cons x r ih =>
      have := frmB_len x
      simp only [List.length_cons, List.map_cons, List.sum_cons]; omega
  have := this (feed T).1
  omega
end Go.Proofs.YtacaipnjedfdoaaDoor
