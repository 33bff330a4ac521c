/-
  Layer 7: structs within structs are built: an item of a message, a talk of a session.
-/
import Derived.Test.YtblkdmbkkimbpaaSessSkip
namespace Go.Proofs.Ytblkdmbkkimbpaa
open Go.RowKit

theorem run_build_itm (fr till : Int) (m : Mg) (W : World) : (Instr.build 58 #[(0, .int .i64 fr), (1, .int .i64 till), (2, .agg m.arr)]).run Try.prog W = .ok (.agg (⟨fr, till, m⟩ : Itm).arr) W := by kernel_rfl
theorem run_build_tk (s : Ses) (A : Option Addr) (n c : Nat) (now : Int) (W : World) : (Instr.build 49 #[(0, .agg (sesArr s A n c)), (1, .int .i64 now)]).run Try.prog W = .ok (.agg (tkArr s A n c now (.slice none 0 0))) W := by kernel_rfl
theorem wpList_build_itm {ops : Array Oper} {rest : List Oper} {o : Oper} {a : Act} {W : World} {Q : Exit → Act → World → Prop} (hgd : o.guard = none) (x y z : Operand) (ho : o.op = .build 58 #[(0, x), (1, y), (2, z)])
    (fr till : Int) (m : Mg) (hx : a.eval x = .int .i64 fr) (hy : a.eval y = .int .i64 till) (hz : a.eval z = .agg m.arr)
    (hk : wpList Try.prog ops Q rest (a.put o.dst (.agg (⟨fr, till, m⟩ : Itm).arr)) W) : wpList Try.prog ops Q (o :: rest) a W := by
  refine wpList_plain hgd fun _ hK => ?_
  have h := run_build_itm fr till m W
  unfold Oper.wp execOp
  simp only [ho, List.map_toArray, List.map_cons, List.map_nil, hx, hy, hz, Sem.run_bind, Sem.run_pure, Result.andThen_ok, h]
  exact hK _ _ hk
theorem wpList_build_tk {ops : Array Oper} {rest : List Oper} {o : Oper} {a : Act} {W : World} {Q : Exit → Act → World → Prop} (hgd : o.guard = none) (x y : Operand) (ho : o.op = .build 49 #[(0, x), (1, y)])
    (s : Ses) (A : Option Addr) (n c : Nat) (now : Int) (hx : a.eval x = .agg (sesArr s A n c)) (hy : a.eval y = .int .i64 now)
    (hk : wpList Try.prog ops Q rest (a.put o.dst (.agg (tkArr s A n c now (.slice none 0 0)))) W) : wpList Try.prog ops Q (o :: rest) a W := by
  refine wpList_plain hgd fun _ hK => ?_
  have h := run_build_tk s A n c now W
  unfold Oper.wp execOp
  simp only [ho, List.map_toArray, List.map_cons, List.map_nil, hx, hy, Sem.run_bind, Sem.run_pure, Result.andThen_ok, h]
  exact hK _ _ hk
end Go.Proofs.Ytblkdmbkkimbpaa
