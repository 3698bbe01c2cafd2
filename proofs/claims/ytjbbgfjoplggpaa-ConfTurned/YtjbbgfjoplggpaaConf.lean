/- Contract of package conf: Put; configurations as cells. -/
import Derived.Test.YtjbbgfjoplggpaaCnfMath
import Derived.Test.YtjbbgfjoplggpaaTail
import Derived.Deep.LoopGhost
import Derived.Deep.RegionLaw
namespace Go.Proofs.Ytjbbgfjoplggpaa
set_option linter.unusedVariables false
open Go.ChangeShapes Go.WideShapes Go.ChangeAt Go.RowKit

theorem undC : ∃ fs, Try.prog.underlying 24 = some (.struct fs) := ⟨_, Try.underlying24⟩
theorem sizeC (c : Cnf) : (Try.prog.info? 24).map (·.size) = some c.vals.length := by rw [c.len_vals]; kernel_rfl
theorem undF : Try.prog.underlying 30 = some (.array 16 2) := by kernel_rfl
theorem sizeF (c : Cnf) : (Try.prog.info? 30).map (·.size) = some c.nums.length := by rw [c.len_nums]; kernel_rfl
theorem allocF (w : World) : (Instr.alloc 30 true (.tuple #[])).run Try.prog w = .ok (.pointer (some ⟨w.heap.size, 0, none⟩)) (w.alloc (vobj 30 Cnf.zero.nums)) := by kernel_rfl
theorem allocC (w : World) : (Instr.alloc 24 true (.tuple #[])).run Try.prog w = .ok (.pointer (some ⟨w.heap.size, 0, none⟩)) (w.alloc (vobj 24 Cnf.zero.vals)) := by kernel_rfl
theorem loadC {w : World} {g : Nat} {c : Cnf} (h : w.heap[g]? = some (vobj 24 c.vals)) : (loadVar 24 ⟨g, 0, none⟩).run Try.prog w = .ok (.agg (aggV c.vals)) w := by
  obtain ⟨fs, hu⟩ := undC
  exact run_load_agg w _ g c.vals _ h hu rfl (sizeC c)
theorem loadF {w : World} {g : Nat} {c : Cnf} (h : w.heap[g]? = some (vobj 30 c.nums)) : (loadVar 30 ⟨g, 0, none⟩).run Try.prog w = .ok (.agg (aggV c.nums)) w :=
  run_load_agg w _ g c.nums _ h undF rfl (sizeF c)

set_option maxRecDepth 100000 in
set_option maxHeartbeats 1000000 in
theorem put_any (c : Cnf) (w : World) :
    Calls Try.prog 12 #[.agg (aggV c.vals)] w fun r w' => r = .returned (.agg (aggV c.put.nums)) ∧ Below w.heap.size w w' := by
  obtain ⟨g, hg⟩ : ∃ g, w.heap.size = g := ⟨_, rfl⟩
  go_enter Try.func12, Try.ntmps12
  go_wp2_with (first
    | (refine wpList_box_agg rfl 24 _ rfl g hg c.vals rfl ?_; intro w1 h1 l1 s1)
    | (refine wpList_alloc_agg rfl 30 rfl (g + 1) s1 Cnf.zero.nums (allocF _) ?_; intro w2 h2 l2 s2;
       have h12 : w2.heap[g]? = some (vobj 24 c.vals) := (l2.block g (by omega)).trans h1;
       obtain ⟨c0, c1, c2, c3, c4, c5, c6, c7, c8, c9, c10, c11, c12, c13, c14, c15⟩ := Cnf.cells_vals h12;
       clear h12)
    | (refine wpList_build_agg rfl 30 _ rfl c.put.nums ?hb ?_; (case hb => kernel_rfl))
    | (refine wpList_store_agg rfl 30 _ _ rfl (g + 1) Cnf.zero.nums c.put.nums rfl rfl h2 rfl (sizeF _) (Cnf.ones_nums _) ?_; intro w3 h3 f3 s3))
  refine bodyPost_ret (v := .agg (aggV c.put.nums)) (results_agg Try.results12 rfl (loadF h3)) rfl ⟨rfl, ?_⟩
  subst hg
  exact (l1.trans (l2.mono (by omega))).trans (f3.below (by omega) (fun j hj e => by omega))
end Go.Proofs.Ytjbbgfjoplggpaa
