/-
  Layer 5: what each kind of message may hold: plain mathematics.
-/
import Derived.Test.YtblkdmbkkimbpaaMsgLem
namespace Go.Proofs.Ytblkdmbkkimbpaa

/-! ### What the program asks of each kind -/
theorem zero_small : small 0 = true := by decide
theorem seq_in {seq : Int} (e1 : ¬ seq = 0) (e2 : small seq = true) : 1 ≤ seq ∧ seq ≤ 1099511627776 := by
  have : 0 ≤ seq ∧ seq ≤ 1099511627776 := by simpa [small] using e2
  omega
section
variable {seq time : Int} {copy : Bool} {a b : Int} {gap : Bool} {text : ByteArray} {ex : Exc}
theorem right_k1 (e1 : ¬ seq = 0) (e2 : small seq = true) (e3 : timeR time = true) (e4 : textB text = true) : (small a = true ∧ (⟨0, 0, 0, false, 0, b, gap, text, ex⟩ : Mg) = Mg.zero) ↔ MsgR ⟨1, seq, time, copy, a, b, gap, text, ex⟩ := by
  have hs := seq_in e1 e2
  have zs := zero_small
  constructor
  · intro h
    simp only [Mg.zero, Mg.mk.injEq, true_and] at h
    refine ⟨by dsimp only; omega, hs, e3, ?_, ?_, e4, ⟨?_, ?_, ?_, ?_, ?_, ?_, ?_, ?_⟩⟩
    all_goals first
      | (simp_all; done)
      | (intros; simp_all; done)
      | omega
  · intro h
    have K := h.kinded
    have k1 := K.ex7
    have k2 := K.ex
    have k3 := K.gap
    have k4 := K.b
    have k5 := K.text
    have k6 := K.text3
    have k7 := K.a
    have k8 := K.a1
    have k9 := h.sa
    have k10 := h.sb
    clear h K
    simp only [Mg.zero, Mg.mk.injEq, true_and]
    simp_all
theorem right_k2 (e1 : ¬ seq = 0) (e2 : small seq = true) (e3 : timeR time = true) (e4 : textB text = true) : ((⟨0, 0, 0, false, a, b, gap, eS, ex⟩ : Mg) = Mg.zero) ↔ MsgR ⟨2, seq, time, copy, a, b, gap, text, ex⟩ := by
  have hs := seq_in e1 e2
  have zs := zero_small
  constructor
  · intro h
    simp only [Mg.zero, Mg.mk.injEq, true_and] at h
    refine ⟨by dsimp only; omega, hs, e3, ?_, ?_, e4, ⟨?_, ?_, ?_, ?_, ?_, ?_, ?_, ?_⟩⟩
    all_goals first
      | (simp_all; done)
      | (intros; simp_all; done)
      | omega
  · intro h
    have K := h.kinded
    have k1 := K.ex7
    have k2 := K.ex
    have k3 := K.gap
    have k4 := K.b
    have k5 := K.text
    have k6 := K.text3
    have k7 := K.a
    have k8 := K.a1
    have k9 := h.sa
    have k10 := h.sb
    clear h K
    simp only [Mg.zero, Mg.mk.injEq, true_and]
    simp_all
theorem right_k3 (e1 : ¬ seq = 0) (e2 : small seq = true) (e3 : timeR time = true) (e4 : textB text = true) : (text ≠ eS ∧ (⟨0, 0, 0, false, a, b, gap, eS, ex⟩ : Mg) = Mg.zero) ↔ MsgR ⟨3, seq, time, copy, a, b, gap, text, ex⟩ := by
  have hs := seq_in e1 e2
  have zs := zero_small
  constructor
  · intro h
    simp only [Mg.zero, Mg.mk.injEq, true_and] at h
    refine ⟨by dsimp only; omega, hs, e3, ?_, ?_, e4, ⟨?_, ?_, ?_, ?_, ?_, ?_, ?_, ?_⟩⟩
    all_goals first
      | (simp_all; done)
      | (intros; simp_all; done)
      | omega
  · intro h
    have K := h.kinded
    have k1 := K.ex7
    have k2 := K.ex
    have k3 := K.gap
    have k4 := K.b
    have k5 := K.text
    have k6 := K.text3
    have k7 := K.a
    have k8 := K.a1
    have k9 := h.sa
    have k10 := h.sb
    clear h K
    simp only [Mg.zero, Mg.mk.injEq, true_and]
    simp_all
theorem right_k4 (e1 : ¬ seq = 0) (e2 : small seq = true) (e3 : timeR time = true) (e4 : textB text = true) : (a ≠ 0 ∧ small a = true ∧ small b = true ∧ (⟨0, 0, 0, false, 0, 0, gap, text, ex⟩ : Mg) = Mg.zero) ↔ MsgR ⟨4, seq, time, copy, a, b, gap, text, ex⟩ := by
  have hs := seq_in e1 e2
  have zs := zero_small
  constructor
  · intro h
    simp only [Mg.zero, Mg.mk.injEq, true_and] at h
    refine ⟨by dsimp only; omega, hs, e3, ?_, ?_, e4, ⟨?_, ?_, ?_, ?_, ?_, ?_, ?_, ?_⟩⟩
    all_goals first
      | (simp_all; done)
      | (intros; simp_all; done)
      | omega
  · intro h
    have K := h.kinded
    have k1 := K.ex7
    have k2 := K.ex
    have k3 := K.gap
    have k4 := K.b
    have k5 := K.text
    have k6 := K.text3
    have k7 := K.a
    have k8 := K.a1
    have k9 := h.sa
    have k10 := h.sb
    clear h K
    simp only [Mg.zero, Mg.mk.injEq, true_and]
    simp_all
theorem right_k5 (e1 : ¬ seq = 0) (e2 : small seq = true) (e3 : timeR time = true) (e4 : textB text = true) : (a ≠ 0 ∧ small a = true ∧ (⟨0, 0, 0, false, 0, b, false, text, ex⟩ : Mg) = Mg.zero) ↔ MsgR ⟨5, seq, time, copy, a, b, gap, text, ex⟩ := by
  have hs := seq_in e1 e2
  have zs := zero_small
  constructor
  · intro h
    simp only [Mg.zero, Mg.mk.injEq, true_and] at h
    refine ⟨by dsimp only; omega, hs, e3, ?_, ?_, e4, ⟨?_, ?_, ?_, ?_, ?_, ?_, ?_, ?_⟩⟩
    all_goals first
      | (simp_all; done)
      | (intros; simp_all; done)
      | omega
  · intro h
    have K := h.kinded
    have k1 := K.ex7
    have k2 := K.ex
    have k3 := K.gap
    have k4 := K.b
    have k5 := K.text
    have k6 := K.text3
    have k7 := K.a
    have k8 := K.a1
    have k9 := h.sa
    have k10 := h.sb
    clear h K
    simp only [Mg.zero, Mg.mk.injEq, true_and]
    simp_all
theorem right_k6 (e1 : ¬ seq = 0) (e2 : small seq = true) (e3 : timeR time = true) (e4 : textB text = true) : ((⟨0, 0, 0, false, a, b, gap, text, ex⟩ : Mg) = Mg.zero) ↔ MsgR ⟨6, seq, time, copy, a, b, gap, text, ex⟩ := by
  have hs := seq_in e1 e2
  have zs := zero_small
  constructor
  · intro h
    simp only [Mg.zero, Mg.mk.injEq, true_and] at h
    refine ⟨by dsimp only; omega, hs, e3, ?_, ?_, e4, ⟨?_, ?_, ?_, ?_, ?_, ?_, ?_, ?_⟩⟩
    all_goals first
      | (simp_all; done)
      | (intros; simp_all; done)
      | omega
  · intro h
    have K := h.kinded
    have k1 := K.ex7
    have k2 := K.ex
    have k3 := K.gap
    have k4 := K.b
    have k5 := K.text
    have k6 := K.text3
    have k7 := K.a
    have k8 := K.a1
    have k9 := h.sa
    have k10 := h.sb
    clear h K
    simp only [Mg.zero, Mg.mk.injEq, true_and]
    simp_all
theorem right_k7 (e1 : ¬ seq = 0) (e2 : small seq = true) (e3 : timeR time = true) (e4 : textB text = true) : (excB ex = true ∧ (⟨0, 0, 0, false, a, b, gap, text, Exc.zero⟩ : Mg) = Mg.zero) ↔ MsgR ⟨7, seq, time, copy, a, b, gap, text, ex⟩ := by
  have hs := seq_in e1 e2
  have zs := zero_small
  constructor
  · intro h
    simp only [Mg.zero, Mg.mk.injEq, true_and] at h
    refine ⟨by dsimp only; omega, hs, e3, ?_, ?_, e4, ⟨?_, ?_, ?_, ?_, ?_, ?_, ?_, ?_⟩⟩
    all_goals first
      | (simp_all; done)
      | (intros; simp_all; done)
      | omega
  · intro h
    have K := h.kinded
    have k1 := K.ex7
    have k2 := K.ex
    have k3 := K.gap
    have k4 := K.b
    have k5 := K.text
    have k6 := K.text3
    have k7 := K.a
    have k8 := K.a1
    have k9 := h.sa
    have k10 := h.sb
    clear h K
    simp only [Mg.zero, Mg.mk.injEq, true_and]
    simp_all
end
end Go.Proofs.Ytblkdmbkkimbpaa
