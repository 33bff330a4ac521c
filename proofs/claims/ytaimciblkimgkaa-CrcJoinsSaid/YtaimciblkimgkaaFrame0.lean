/-
  What all frames of a seat share whose rows list no variable: the world that the program's initialisers leave.
-/
import Derived.Test.YtaimciblkimgkaaRows
import Derived.ProofKit
import Derived.OpenShut
import Derived.ShutString
import Derived.ChangeOld
import Derived.Below
import Derived.Deep.DeepHandedRow
import Derived.Deep.DeepWitnessRowRef
import Derived.LaidMore
import Derived.Stop.Joined
import Derived.Stop.LaidErr
namespace Go.Proofs.Ytaimciblkimgkaa
open Go.ChangeShapes Go.WideShapes Go.ChangeAt Go.RowKit

theorem own : ownKnob Try.prog.godebug = none := by kernel_rfl
theorem laidOut : laidOutB Try.prog = true := by kernel_rfl
def doorSteps : Nat := 0
theorem door_met (os : Os) (args : Array Value) : laidMetH Try.prog [] ((World.doorLaid Try.prog doorSteps os).forCall (fun _ _ => 0) ⟨#[], args, []⟩).memory := by
  show laidMet _ [] _
  exact ⟨[], by first | exact .nil | rfl | trivial | simp [DataW.LaidVars], List.nodup_nil, fun b off h => by cases h⟩
end Go.Proofs.Ytaimciblkimgkaa
