/-
  Layer 5, msg: two messages are compared.
-/
import Derived.Test.YtblkdmbkkimbpaaProg
import Derived.Test.YtblkdmbkkimbpaaMg
import Derived.Lib.Strings
import Derived.Laws.StructEq
import Derived.KernelRfl
namespace Go.Proofs.Ytblkdmbkkimbpaa

theorem fieldsX : Try.prog.fieldsOf 39 = #[{ name := "ID", type := 9, offset := 0, embedded := false, tag := "", pkgPath := "", byteOffset := 0 }, { name := "Ref", type := 9, offset := 1, embedded := false, tag := "", pkgPath := "", byteOffset := 16 }, { name := "Order", type := 9, offset := 2, embedded := false, tag := "", pkgPath := "", byteOffset := 32 }, { name := "Account", type := 9, offset := 3, embedded := false, tag := "", pkgPath := "", byteOffset := 48 }, { name := "Symbol", type := 9, offset := 4, embedded := false, tag := "", pkgPath := "", byteOffset := 64 }, { name := "Kind", type := 3, offset := 5, embedded := false, tag := "", pkgPath := "", byteOffset := 80 }, { name := "Buy", type := 4, offset := 6, embedded := false, tag := "", pkgPath := "", byteOffset := 88 }, { name := "Qty", type := 2, offset := 7, embedded := false, tag := "", pkgPath := "", byteOffset := 96 }, { name := "Price", type := 2, offset := 8, embedded := false, tag := "", pkgPath := "", byteOffset := 104 }, { name := "Time", type := 2, offset := 9, embedded := false, tag := "", pkgPath := "", byteOffset := 112 }] := by kernel_rfl
theorem fieldsM : Try.prog.fieldsOf 41 = #[{ name := "Kind", type := 3, offset := 0, embedded := false, tag := "", pkgPath := "", byteOffset := 0 }, { name := "Seq", type := 2, offset := 1, embedded := false, tag := "", pkgPath := "", byteOffset := 8 }, { name := "Time", type := 2, offset := 2, embedded := false, tag := "", pkgPath := "", byteOffset := 16 }, { name := "Copy", type := 4, offset := 3, embedded := false, tag := "", pkgPath := "", byteOffset := 24 }, { name := "A", type := 2, offset := 4, embedded := false, tag := "", pkgPath := "", byteOffset := 32 }, { name := "B", type := 2, offset := 5, embedded := false, tag := "", pkgPath := "", byteOffset := 40 }, { name := "Gap", type := 4, offset := 6, embedded := false, tag := "", pkgPath := "", byteOffset := 48 }, { name := "Text", type := 9, offset := 7, embedded := false, tag := "", pkgPath := "", byteOffset := 56 }, { name := "Exec", type := 39, offset := 8, embedded := false, tag := "", pkgPath := "", byteOffset := 72 }] := by kernel_rfl
theorem str_eq (a b : ByteArray) : (a.toList == b.toList) = decide (a = b) := by
  rw [Lib.toList_data, Lib.toList_data]
  by_cases h : a = b
  · rw [h, decide_eq_true rfl, beq_self_eq_true]
  · rw [decide_eq_false h, beq_eq_false_iff_ne]
    intro he
    apply h
    cases a; cases b
    simp only at he
    rw [Array.toList_inj.1 he]
theorem ite_ok (W : World) (p : Prop) [Decidable p] (r : Bool) : (if p then (.ok r W : Result Bool) else .ok false W) = .ok (decide p && r) W := by by_cases h : p <;> simp [h]
set_option maxRecDepth 100000 in
theorem eqX (d : Nat) (x y : Exc) (W : World) : (Op.equalIn (d + 2) 39 x.val y.val).run Try.prog W = .ok (decide (x = y)) W := by
  obtain ⟨a1, a2, a3, a4, a5, a6, a7, a8, a9, a10⟩ := x
  obtain ⟨b1, b2, b3, b4, b5, b6, b7, b8, b9, b10⟩ := y
  unfold Exc.val
  rw [run_equalIn_agg W (d + 1) 39 _ _ (by kernel_rfl) (by kernel_rfl), fieldsX]
  have u1 := Try.underlying3
  have u2 := Try.underlying9
  have u3 := Try.underlying2
  have u4 := Try.underlying4
  simp [Op.eqFields, go_sem, u1, u2, u3, u4, str_eq]
  repeat' split
  all_goals simp_all
set_option maxRecDepth 100000 in
set_option maxHeartbeats 1000000 in
theorem eqM (d : Nat) (x y : Mg) (W : World) : (Op.equalIn (d + 3) 41 x.val y.val).run Try.prog W = .ok (decide (x = y)) W := by
  obtain ⟨a1, a2, a3, a4, a5, a6, a7, a8, ⟨c1, c2, c3, c4, c5, c6, c7, c8, c9, c10⟩⟩ := x
  obtain ⟨b1, b2, b3, b4, b5, b6, b7, b8, ⟨e1, e2, e3, e4, e5, e6, e7, e8, e9, e10⟩⟩ := y
  unfold Mg.val
  dsimp only
  rw [run_equalIn_agg W (d + 2) 41 _ _ (by kernel_rfl) (by kernel_rfl), fieldsM]
  have u1 := Try.underlying3
  have u2 := Try.underlying9
  have u3 := Try.underlying2
  have u4 := Try.underlying4
  have u5 := Try.underlying39
  simp [Op.eqFields, go_sem, u1, u2, u3, u4, str_eq, u5]
  simp only [ite_ok, Bool.and_true]
theorem eqlM (x y : Mg) (W : World) : (binOp .eql 41 x.val y.val).run Try.prog W = .ok (.bool (decide (x = y))) W := by
  have h := eqM 9997 x y W
  unfold Mg.val at h ⊢
  rw [run_eql_struct, h]; rfl
theorem neqM (x y : Mg) (W : World) : (binOp .neq 41 x.val y.val).run Try.prog W = .ok (.bool (!decide (x = y))) W := by
  have h := eqM 9997 x y W
  unfold Mg.val at h ⊢
  rw [run_neq_struct, h]; rfl
theorem guardM : Try.prog.eqGuardType Try.prog.depth 41 = false := by kernel_rfl
theorem guard_eqM (op : BinOp) (x y : Operand) (m n : Mg) (W : World) : (eqGuard op 41 x y m.val n.val).run Try.prog W = .ok () W := by
  unfold eqGuard Mg.val
  cases op <;> simp [go_sem]
theorem wp_eqM {o : Oper} {a : Act} {w : World} {K : Act → World → Prop} {Q : Exit → Act → World → Prop} (x y : Operand) (ho : o.op = .binOp .eql 41 x y 41) (m n : Mg) (hx : a.eval x = m.val) (hy : a.eval y = n.val)
    (hk : K (a.put o.dst (.bool (decide (m = n)))) w) : o.wp Try.prog a w K Q := by
  unfold Oper.wp execOp
  simp only [ho, hx, hy, Sem.run_bind, guard_eqM, eqlM, Result.andThen_ok, Sem.run_pure]
  exact hk
theorem wp_neM {o : Oper} {a : Act} {w : World} {K : Act → World → Prop} {Q : Exit → Act → World → Prop} (x y : Operand) (ho : o.op = .binOp .neq 41 x y 41) (m n : Mg) (hx : a.eval x = m.val) (hy : a.eval y = n.val)
    (hk : K (a.put o.dst (.bool (!decide (m = n)))) w) : o.wp Try.prog a w K Q := by
  unfold Oper.wp execOp
  simp only [ho, hx, hy, Sem.run_bind, guard_eqM, neqM, Result.andThen_ok, Sem.run_pure]
  exact hk
theorem list_eqM {ops : Array Oper} {rest : List Oper} {o : Oper} {a : Act} {W : World} {Q : Exit → Act → World → Prop} (hgd : o.guard = none) (x y : Operand) (ho : o.op = .binOp .eql 41 x y 41) (m n : Mg) (hx : a.eval x = m.val) (hy : a.eval y = n.val)
    (hk : wpList Try.prog ops Q rest (a.put o.dst (.bool (decide (m = n)))) W) : wpList Try.prog ops Q (o :: rest) a W :=
  wpList_plain hgd fun _ hK => wp_eqM x y ho m n hx hy (hK _ _ hk)
theorem list_neM {ops : Array Oper} {rest : List Oper} {o : Oper} {a : Act} {W : World} {Q : Exit → Act → World → Prop} (hgd : o.guard = none) (x y : Operand) (ho : o.op = .binOp .neq 41 x y 41) (m n : Mg) (hx : a.eval x = m.val) (hy : a.eval y = n.val)
    (hk : wpList Try.prog ops Q rest (a.put o.dst (.bool (!decide (m = n)))) W) : wpList Try.prog ops Q (o :: rest) a W :=
  wpList_plain hgd fun _ hK => wp_neM x y ho m n hx hy (hK _ _ hk)
end Go.Proofs.Ytblkdmbkkimbpaa
