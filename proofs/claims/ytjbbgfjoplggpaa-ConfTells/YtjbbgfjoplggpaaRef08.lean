/- The reference of layer 8: in, ticks, only, Put, Of. -/
import Derived.Test.YtjbbgfjoplggpaaConfDo
import Derived.Test.YtjbbgfjoplggpaaLater
namespace Go.Proofs.Ytjbbgfjoplggpaa
set_option linter.unusedVariables false
open Go.ChangeShapes Go.WideShapes Go.ChangeAt Go.RowKit

theorem in_any (n lo hi : Int) (w : World) : Calls Try.prog 20 #[.int .i64 n, .int .i64 lo, .int .i64 hi] w fun r w' => r = .returned (.bool (decide (lo ≤ n ∧ n ≤ hi))) ∧ w = w' := by
  by_cases h : lo ≤ n
  · go_enter Try.func20, Try.ntmps20
    go_wp2
    go_ret
    exact ⟨ret_bool (by simp [h]), rfl⟩
  · go_enter Try.func20, Try.ntmps20
    go_wp2
    go_ret
    exact ⟨ret_bool (by simp; omega), rfl⟩
theorem only_any (b : Bool) (n lo hi : Int) (w : World) : Calls Try.prog 21 #[.bool b, .int .i64 n, .int .i64 lo, .int .i64 hi] w fun r w' => r = .returned (.bool (if b = true then decide (lo ≤ n ∧ n ≤ hi) else decide (n = 0))) ∧ w = w' := by
  cases b
  · go_enter Try.func21, Try.ntmps21
    go_wp2
    go_ret
    refine ⟨ret_bool ?_, rfl⟩
    by_cases h : n = 0 <;> simp [h]
  · go_enter Try.func21, Try.ntmps21
    go_wp2_with (go_at_call 20; refine (in_any _ _ _ _).mono ?_; rintro r w' ⟨rfl, rfl⟩)
    go_ret
    exact ⟨rfl, rfl⟩
theorem ticks_any (n lo : Int) (w : World) : Calls Try.prog 22 #[.int .u64 n, .int .u64 lo] w fun r w' => r = .returned (.bool (decide (lo ≤ n ∧ n ≤ 1099511627776))) ∧ w = w' := by
  by_cases h : lo ≤ n
  · go_enter Try.func22, Try.ntmps22
    go_wp2
    go_ret
    exact ⟨ret_bool (by simp [h]), rfl⟩
  · go_enter Try.func22, Try.ntmps22
    go_wp2
    go_ret
    exact ⟨ret_bool (by simp; omega), rfl⟩

set_option maxRecDepth 100000 in
set_option maxHeartbeats 1000000 in
theorem rput_any (c : Cnf) (w : World) :
    Calls Try.prog 13 #[.agg (aggV c.vals)] w fun r w' => r = .returned (.agg (aggV c.put.nums)) ∧ Below w.heap.size w w' := by
  obtain ⟨g, hg⟩ : ∃ g, w.heap.size = g := ⟨_, rfl⟩
  go_enter Try.func13, Try.ntmps13
  go_wp2_with (first
    | (refine wpList_box_agg rfl 24 _ rfl g hg c.vals rfl ?_; intro w1 h1 l1 s1)
    | (refine wpList_alloc_agg rfl 30 rfl (g + 1) s1 Cnf.zero.nums (allocF _) ?_; intro w2 h2 l2 s2;
       have h12 : w2.heap[g]? = some (vobj 24 c.vals) := (l2.block g (by omega)).trans h1;
       obtain ⟨c0, c1, c2, c3, c4, c5, c6, c7, c8, c9, c10, c11, c12, c13, c14, c15⟩ := Cnf.cells_vals h12;
       clear h12)
    | (refine wpList_build_agg rfl 30 _ rfl c.put.nums ?hb ?_; (case hb => kernel_rfl))
    | (refine wpList_store_agg rfl 30 _ _ rfl (g + 1) Cnf.zero.nums c.put.nums rfl rfl h2 rfl (sizeF _) (Cnf.ones_nums _) ?_; intro w3 h3 f3 s3))
  refine bodyPost_ret (v := .agg (aggV c.put.nums)) (results_agg Try.results13 rfl (loadF h3)) rfl ⟨rfl, ?_⟩
  subst hg
  exact (l1.trans (l2.mono (by omega))).trans (f3.below (by omega) (fun j hj e => by omega))

set_option maxRecDepth 100000 in
set_option maxHeartbeats 1000000 in
theorem of_any (f : Cnf) (w : World) :
    Calls Try.prog 17 #[.agg (aggV f.nums)] w fun r w' => r = .returned (.agg (aggV f.take.vals)) ∧ Below w.heap.size w w' := by
  obtain ⟨g, hg⟩ : ∃ g, w.heap.size = g := ⟨_, rfl⟩
  go_enter Try.func17, Try.ntmps17
  go_wp2_with (first
    | (refine wpList_box_agg rfl 30 _ rfl g hg f.nums rfl ?_; intro w1 h1 l1 s1)
    | (refine wpList_alloc_agg rfl 24 rfl (g + 1) s1 Cnf.zero.vals (allocC _) ?_; intro w2 h2 l2 s2;
       have h12 : w2.heap[g]? = some (vobj 30 f.nums) := (l2.block g (by omega)).trans h1;
       obtain ⟨c0, c1, c2, c3, c4, c5, c6, c7, c8, c9, c10, c11, c12, c13, c14, c15⟩ := Cnf.cells_nums h12;
       clear h12)
    | (refine wpList_build_agg rfl 24 _ rfl f.take.vals ?hb ?_; (case hb => kernel_rfl))
    | (refine wpList_store_agg rfl 24 _ _ rfl (g + 1) Cnf.zero.vals f.take.vals rfl rfl h2 rfl (sizeC _) (Cnf.ones_vals _) ?_; intro w3 h3 f3 s3))
  refine bodyPost_ret (v := .agg (aggV f.take.vals)) (results_agg Try.results17 rfl (loadC h3)) rfl ⟨rfl, ?_⟩
  subst hg
  exact (l1.trans (l2.mono (by omega))).trans (f3.below (by omega) (fun j hj e => by omega))
end Go.Proofs.Ytjbbgfjoplggpaa
