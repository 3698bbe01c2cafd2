/- Contract of wheel.New. -/
import Derived.Test.YtgpebbopggmgbaaWhAdd
import Derived.Test.YtgpebbopggmgbaaWhInv
import Derived.Maps.OwnSet
import Derived.Maps.OwnOps
import Derived.DeepKeys4
namespace Go.Proofs.Ytgpebbopggmgbaa
set_option linter.unusedVariables false
open Go.ChangeShapes Go.WideShapes Go.ChangeAt Go.RowKit

/-- The cells of a new wheel. -/
def wheelCells (now : Int) (m : Nat) : Array Value := ⟨.int .u64 now :: .map (some m) :: List.replicate 514 (.pointer none)⟩

theorem wheel_build (now : Int) (m : Nat) (w : World) :
    (Instr.build 64 #[(0, .int .u64 now), (1, .map (some m))]).run Try.prog w = .ok (.agg (wheelCells now m)) w := by kernel_rfl

theorem wpList_build {P : Program} {w : World} {ops : Array Oper} {rest : List Oper} {o : Oper} {a : Act} {Q : Exit → Act → World → Prop} (hg : o.guard = none) (t : TypeId) (parts : Array (Nat × Operand)) (hop : o.op = .build t parts)
    (v : Value) (hrun : (Instr.build t (parts.map fun (i, x) => (i, a.eval x))).run P w = .ok v w) (h : wpList P ops Q rest (a.put o.dst v) w) : wpList P ops Q (o :: rest) a w := by
  refine wpList_plain hg fun K' hK' => ?_
  unfold Oper.wp
  simp [execOp, hop, hrun, Result.andThen]
  exact hK' _ _ h

theorem new_any (now : Int) (w : World) :
    Calls Try.prog 10 #[.int .u64 now] w fun e w' => e = .returned (.pointer (some ⟨w.heap.size + 1, 0, none⟩)) ∧ 
      w' = (w.alloc (.map #[] 0)).alloc (.cells (wheelCells now w.heap.size) 64) := by
  have hmm := @run_makeMap Try.prog
  go_enter Try.func10, Try.ntmps10
  go_wp2_with (refine wpList_build rfl 64 _ rfl (.agg (wheelCells now w.heap.size)) ?hb ?_; (case hb => kernel_rfl))
  go_ret
  exact ⟨rfl, rfl⟩

end Go.Proofs.Ytgpebbopggmgbaa
