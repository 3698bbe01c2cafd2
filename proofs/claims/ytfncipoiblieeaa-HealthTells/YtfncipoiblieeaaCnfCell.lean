/- Configurations (api.Conf) as cells: their type, a new one, a load. -/
import Derived.Test.YtfncipoiblieeaaCnfVals
namespace Go.Proofs.Ytfncipoiblieeaa
set_option linter.unusedVariables false
open Go.ChangeShapes Go.WideShapes Go.ChangeAt Go.RowKit

theorem undC : ∃ fs, Try.prog.underlying 25 = some (.struct fs) := ⟨_, Try.underlying25⟩
theorem sizeC (c : Cnf) : (Try.prog.info? 25).map (·.size) = some c.vals.length := by rw [c.len_vals]; kernel_rfl
theorem allocC (w : World) : (Instr.alloc 25 true (.tuple #[])).run Try.prog w = .ok (.pointer (some ⟨w.heap.size, 0, none⟩)) (w.alloc (vobj 25 Cnf.zero.vals)) := by kernel_rfl
theorem loadC {w : World} {g : Nat} {c : Cnf} (h : w.heap[g]? = some (vobj 25 c.vals)) : (loadVar 25 ⟨g, 0, none⟩).run Try.prog w = .ok (.agg (aggV c.vals)) w := by
  obtain ⟨fs, hu⟩ := undC
  exact run_load_agg w _ g c.vals _ h hu rfl (sizeC c)
theorem zeroC (w : World) : (zeroValue 25).run Try.prog w = .ok (.agg (aggV Cnf.zero.vals)) w := by kernel_rfl
end Go.Proofs.Ytfncipoiblieeaa
