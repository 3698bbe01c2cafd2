/- Contracts of porpoiseref10: New, Pick, Admit. (Written by wip/tools/gen_ref10b.py.) -/
import Derived.Test.YtnmcnniilihecaaRef10
import Derived.Test.YtnmcnniilihecaaBulNew
namespace Go.Proofs.Ytnmcnniilihecaa
set_option linter.unusedVariables false
open Go.ChangeShapes Go.WideShapes Go.ChangeAt Go.RowKit

/-- The document's bulk tells the same. -/
structure RK.Is (w : World) (base : Nat) (x : RK) (S : BU) : Prop where
  most : x.most = S.most
  que : x.que = S.que
  run : Ints w base (.slice x.A x.n x.c) S.run
  wait : Ints w base (.slice x.B x.m x.d) S.wait
section
variable {w w' : World} {base : Nat} {x : RK} {S : BU}
theorem RK.Is.below (h : x.Is w base S) (hb : Below w.heap.size w w') : x.Is w' base S := ⟨h.most, h.que, h.run.below hb, h.wait.below hb⟩
theorem RK.Is.ali (h : x.Is w base S) (ha : Ali w w') : x.Is w' base S := h.below (ali_below ha)
theorem RK.Is.mono (h : x.Is w base S) {base' : Nat} (hb : base' ≤ base) : x.Is w base' S := ⟨h.most, h.que, h.run.mono hb, h.wait.mono hb⟩
/-- Blocks of other kinds may turn. -/
theorem RK.Is.frm {F : Nat → Prop} (h : x.Is w base S) (hf : Frm F w w') (hF : ∀ j, F j → ∀ cs, w.heap[j]? ≠ some (.cells cs 3 (0, 0))) : x.Is w' base S := ⟨h.most, h.que, h.run.frm hf hF, h.wait.frm hf hF⟩
/-- A block of another kind. -/
theorem RK.Is.beside (h : x.Is w base S) {g : Nat} {cs : Array Value} {t : TypeId} {z : Nat × Nat} (hg : w.heap[g]? = some (.cells cs t z)) (ht : t ≠ 3) (hf : Frm (· = g) w w') : x.Is w' base S :=
  h.frm hf (fun j hj cs' hc => by
    rw [show j = g from hj, hg] at hc
    injection hc with hc
    injection hc with _ hc
    exact ht hc)
theorem RK.Is.rowA (h : x.Is w base S) : Row .i64 w x.A x.n S.run ∧ S.run.length = x.n := ⟨h.run.row.1, h.run.row.2.1⟩
theorem RK.Is.rowB (h : x.Is w base S) : Row .i64 w x.B x.m S.wait ∧ S.wait.length = x.m := ⟨h.wait.row.1, h.wait.row.2.1⟩
end

/-- The document's bulk of a configuration. -/
def RK.ofC (c : Cnf) : RK := if c.mode = 2 then ⟨c.sem, 0, none, 0, 0, none, 0, 0⟩ else ⟨c.pool, c.queue, none, 0, 0, none, 0, 0⟩
theorem RK.ofC_is {c : Cnf} {most que : Nat} (h : c.Bulk most que) (w : World) (base : Nat) : (RK.ofC c).Is w base (BU.none_ most que) := by
  obtain ⟨_, _, ⟨e0, e1, e2⟩ | ⟨e0, e1, e2⟩⟩ := h
  · have : RK.ofC c = ⟨most, que, none, 0, 0, none, 0, 0⟩ := by unfold RK.ofC; rw [if_neg (by omega), e1, e2]
    rw [this]
    exact ⟨rfl, rfl, Ints.nil _ _, Ints.nil _ _⟩
  · have : RK.ofC c = ⟨most, 0, none, 0, 0, none, 0, 0⟩ := by unfold RK.ofC; rw [if_pos e0, e1]
    rw [this]
    subst e2
    exact ⟨rfl, rfl, Ints.nil _ _, Ints.nil _ _⟩
theorem buildR (c : Cnf) (w : World) : (Instr.build 31 #[(0, .int .i64 c.pool), (1, .int .i64 c.queue)]).run Try.prog w = .ok (.agg (aggV (RK.vals ⟨c.pool, c.queue, none, 0, 0, none, 0, 0⟩))) w := by kernel_rfl
theorem buildR2 (c : Cnf) (w : World) : (Instr.build 31 #[(0, .int .i64 c.sem)]).run Try.prog w = .ok (.agg (aggV (RK.vals ⟨c.sem, 0, none, 0, 0, none, 0, 0⟩))) w := by kernel_rfl

set_option maxRecDepth 100000 in
set_option maxHeartbeats 1000000 in
theorem rnew_pool (c : Cnf) (w : World) (e0 : c.mode = 1) (e1 : 0 ≤ c.pool ∧ c.pool ≤ 8 ∧ 0 ≤ c.queue ∧ c.queue ≤ 8) :
    Calls Try.prog 11 #[.agg (aggV c.vals)] w fun r w' => r = .returned (.tuple #[.agg (aggV (RK.vals ⟨c.pool, c.queue, none, 0, 0, none, 0, 0⟩)), .bool true]) ∧ Below w.heap.size w w' := by
  obtain ⟨fs, hu⟩ := undR
  have HU := Lib.hid hu
  obtain ⟨g, hg⟩ : ∃ g, w.heap.size = g := ⟨_, rfl⟩
  clear hu
  obtain ⟨p0, p1, p2, p3⟩ := e1
  have e2 : (c.mode == 2) = false := by rw [e0]; rfl
  have e3 : 1 ≤ c.mode := by omega
  have e4 : c.mode ≤ 2 := by omega
  clear e0
  all_goals
    go_enter Try.func11, Try.ntmps11
    go_wp2_with (first
      | (refine wpList_box_agg rfl 24 _ rfl g hg c.vals rfl ?_; intro w1 h1 l1 t1)
      | (refine wpList_alloc_agg rfl 31 rfl (g + 1) t1 RK.zero.vals (allocR _) ?_; intro w2 k2 l2 t2;
         have h2 : w2.heap[g]? = some (vobj 24 c.vals) := (l2.block g (by omega)).trans h1;
         obtain ⟨c0, c1, c2, c3, _⟩ := Cnf.cells_vals h2;
         clear h1)
      | (refine wpList_build_agg rfl 31 _ rfl (RK.vals ⟨c.pool, c.queue, none, 0, 0, none, 0, 0⟩) ?hb ?_; (case hb => exact buildR c _))
      | (refine wpList_alloc_agg rfl 31 rfl (g + 2) t2 RK.zero.vals (allocR _) ?_; intro w3 j3 l3 t3;
         have h3 : w3.heap[g]? = some (vobj 24 c.vals) := (l3.block g (by omega)).trans h2;
         have k3 : w3.heap[g + 1]? = some (vobj 31 RK.zero.vals) := (l3.block (g + 1) (by omega)).trans k2;
         clear c0 c1 c2 c3 h2 k2)
      | (refine wpList_store_agg rfl 31 _ _ rfl (g + 2) RK.zero.vals (RK.vals ⟨c.pool, c.queue, none, 0, 0, none, 0, 0⟩) rfl rfl ?hz rfl (sizeR _) (RK.ones_vals _) ?_; (case hz => exact j3); intro w5 j5 f4 t5;
         have h5 : w5.heap[g]? = some (vobj 24 c.vals) := (f4.block g (by omega) (by show ¬ (g = g + 2); omega)).trans h3;
         have k5 : w5.heap[g + 1]? = some (vobj 31 RK.zero.vals) := (f4.block (g + 1) (by omega) (by show ¬ (g + 1 = g + 2); omega)).trans k3;
         have F5 := Lib.hid f4;
         obtain ⟨c0, c1, c2, c3, _⟩ := Cnf.cells_vals h5;
         obtain ⟨d0, d1, _⟩ := RK.cells_vals j5;
         clear f4 h3 k3 j3)
      | (refine wpList_load_agg rfl 31 _ rfl (g + 2) rfl (RK.vals ⟨c.pool, c.queue, none, 0, 0, none, 0, 0⟩) ?hy _ HU.out rfl (sizeR _) ?_; (case hy => exact j5))
      | (refine wpList_store_agg rfl 31 _ _ rfl (g + 1) RK.zero.vals (RK.vals ⟨c.pool, c.queue, none, 0, 0, none, 0, 0⟩) rfl rfl ?hz rfl (sizeR _) (RK.ones_vals _) ?_; (case hz => exact k5); intro w6 h6 f6 t6))
    refine bodyPost_ret (v := .tuple #[.agg (aggV (RK.vals ⟨c.pool, c.queue, none, 0, 0, none, 0, 0⟩)), .bool true]) (results_agg1 Try.results11 rfl (loadR h6) (by first | rfl | simp)) rfl ⟨rfl, ?_⟩
    subst hg
    exact ((l1.trans (l2.mono (by omega))).trans (l3.mono (by omega))).trans ((F5.out.below (by omega) (fun j hj e => by omega)).trans (f6.below (by omega) (fun j hj e => by omega)))

set_option maxRecDepth 100000 in
set_option maxHeartbeats 1000000 in
theorem rnew_sem (c : Cnf) (w : World) (e0 : c.mode = 2) (e1 : 0 ≤ c.sem ∧ c.sem ≤ 8) :
    Calls Try.prog 11 #[.agg (aggV c.vals)] w fun r w' => r = .returned (.tuple #[.agg (aggV (RK.vals ⟨c.sem, 0, none, 0, 0, none, 0, 0⟩)), .bool true]) ∧ Below w.heap.size w w' := by
  obtain ⟨fs, hu⟩ := undR
  have HU := Lib.hid hu
  obtain ⟨g, hg⟩ : ∃ g, w.heap.size = g := ⟨_, rfl⟩
  clear hu
  obtain ⟨p0, p1⟩ := e1
  have e2 : (c.mode == 2) = true := by rw [e0]; rfl
  have e3 : 1 ≤ c.mode := by omega
  have e4 : c.mode ≤ 2 := by omega
  clear e0
  all_goals
    go_enter Try.func11, Try.ntmps11
    go_wp2_with (first
      | (refine wpList_box_agg rfl 24 _ rfl g hg c.vals rfl ?_; intro w1 h1 l1 t1)
      | (refine wpList_alloc_agg rfl 31 rfl (g + 1) t1 RK.zero.vals (allocR _) ?_; intro w2 k2 l2 t2;
         have h2 : w2.heap[g]? = some (vobj 24 c.vals) := (l2.block g (by omega)).trans h1;
         obtain ⟨c0, c1, c2, c3, _⟩ := Cnf.cells_vals h2;
         clear h1)
      | (refine wpList_build_agg rfl 31 _ rfl (RK.vals ⟨c.pool, c.queue, none, 0, 0, none, 0, 0⟩) ?hb ?_; (case hb => exact buildR c _))
      | (refine wpList_alloc_agg rfl 31 rfl (g + 2) t2 RK.zero.vals (allocR _) ?_; intro w3 j3 l3 t3;
         have h3 : w3.heap[g]? = some (vobj 24 c.vals) := (l3.block g (by omega)).trans h2;
         have k3 : w3.heap[g + 1]? = some (vobj 31 RK.zero.vals) := (l3.block (g + 1) (by omega)).trans k2;
         clear c0 c1 c2 c3 h2 k2)
      | (refine wpList_store_agg rfl 31 _ _ rfl (g + 2) RK.zero.vals (RK.vals ⟨c.pool, c.queue, none, 0, 0, none, 0, 0⟩) rfl rfl ?hz rfl (sizeR _) (RK.ones_vals _) ?_; (case hz => exact j3); intro w4 j4 f4 t4;
         have h4 : w4.heap[g]? = some (vobj 24 c.vals) := (f4.block g (by omega) (by show ¬ (g = g + 2); omega)).trans h3;
         have k4 : w4.heap[g + 1]? = some (vobj 31 RK.zero.vals) := (f4.block (g + 1) (by omega) (by show ¬ (g + 1 = g + 2); omega)).trans k3;
         have F4 := Lib.hid f4;
         obtain ⟨c0, c1, c2, c3, _⟩ := Cnf.cells_vals h4;
         obtain ⟨d0, d1, _⟩ := RK.cells_vals j4;
         clear f4 h3 k3 j3)
      | (refine wpList_build_agg rfl 31 _ rfl (RK.vals ⟨c.sem, 0, none, 0, 0, none, 0, 0⟩) ?hb ?_; (case hb => exact buildR2 c _))
      | (refine wpList_store_agg rfl 31 _ _ rfl (g + 2) (RK.vals ⟨c.pool, c.queue, none, 0, 0, none, 0, 0⟩) (RK.vals ⟨c.sem, 0, none, 0, 0, none, 0, 0⟩) rfl rfl ?hz rfl (sizeR _) (RK.ones_vals _) ?_; (case hz => exact j4); intro w5 j5 f5 t5;
         have h5 : w5.heap[g]? = some (vobj 24 c.vals) := (f5.block g (by omega) (by show ¬ (g = g + 2); omega)).trans h4;
         have k5 : w5.heap[g + 1]? = some (vobj 31 RK.zero.vals) := (f5.block (g + 1) (by omega) (by show ¬ (g + 1 = g + 2); omega)).trans k4;
         have F5 : Hid (Frm (· = g + 2) w3 w5) := Lib.hid (F4.out.trans f5 (fun _ _ h => h));
         clear c0 c1 c2 c3 d0 d1;
         obtain ⟨c0, c1, c2, c3, _⟩ := Cnf.cells_vals h5;
         obtain ⟨d0, d1, _⟩ := RK.cells_vals j5;
         clear f5 h4 k4 j4)
      | (refine wpList_load_agg rfl 31 _ rfl (g + 2) rfl (RK.vals ⟨c.sem, 0, none, 0, 0, none, 0, 0⟩) ?hy _ HU.out rfl (sizeR _) ?_; (case hy => exact j5))
      | (refine wpList_store_agg rfl 31 _ _ rfl (g + 1) RK.zero.vals (RK.vals ⟨c.sem, 0, none, 0, 0, none, 0, 0⟩) rfl rfl ?hz rfl (sizeR _) (RK.ones_vals _) ?_; (case hz => exact k5); intro w6 h6 f6 t6))
    refine bodyPost_ret (v := .tuple #[.agg (aggV (RK.vals ⟨c.sem, 0, none, 0, 0, none, 0, 0⟩)), .bool true]) (results_agg1 Try.results11 rfl (loadR h6) (by first | rfl | simp)) rfl ⟨rfl, ?_⟩
    subst hg
    exact ((l1.trans (l2.mono (by omega))).trans (l3.mono (by omega))).trans ((F5.out.below (by omega) (fun j hj e => by omega)).trans (f6.below (by omega) (fun j hj e => by omega)))

set_option maxRecDepth 100000 in
set_option maxHeartbeats 1000000 in
theorem rnew_sem_bad (c : Cnf) (w : World) (e0 : c.mode = 2) (e1 : c.sem < 0 ∨ 8 < c.sem) :
    Calls Try.prog 11 #[.agg (aggV c.vals)] w fun r w' => r = .returned (.tuple #[.agg (aggV (RK.vals ⟨c.sem, 0, none, 0, 0, none, 0, 0⟩)), .bool false]) ∧ Below w.heap.size w w' := by
  obtain ⟨fs, hu⟩ := undR
  have HU := Lib.hid hu
  obtain ⟨g, hg⟩ : ∃ g, w.heap.size = g := ⟨_, rfl⟩
  clear hu
  have e2 : (c.mode == 2) = true := by rw [e0]; rfl
  have e3 : 1 ≤ c.mode := by omega
  have e4 : c.mode ≤ 2 := by omega
  clear e0
  have e1 : ¬ 0 ≤ c.sem ∨ (0 ≤ c.sem ∧ ¬ c.sem ≤ 8) := by omega
  rcases e1 with e1 | ⟨e1, e1'⟩
  all_goals
    go_enter Try.func11, Try.ntmps11
    go_wp2_with (first
      | (refine wpList_box_agg rfl 24 _ rfl g hg c.vals rfl ?_; intro w1 h1 l1 t1)
      | (refine wpList_alloc_agg rfl 31 rfl (g + 1) t1 RK.zero.vals (allocR _) ?_; intro w2 k2 l2 t2;
         have h2 : w2.heap[g]? = some (vobj 24 c.vals) := (l2.block g (by omega)).trans h1;
         obtain ⟨c0, c1, c2, c3, _⟩ := Cnf.cells_vals h2;
         clear h1)
      | (refine wpList_build_agg rfl 31 _ rfl (RK.vals ⟨c.pool, c.queue, none, 0, 0, none, 0, 0⟩) ?hb ?_; (case hb => exact buildR c _))
      | (refine wpList_alloc_agg rfl 31 rfl (g + 2) t2 RK.zero.vals (allocR _) ?_; intro w3 j3 l3 t3;
         have h3 : w3.heap[g]? = some (vobj 24 c.vals) := (l3.block g (by omega)).trans h2;
         have k3 : w3.heap[g + 1]? = some (vobj 31 RK.zero.vals) := (l3.block (g + 1) (by omega)).trans k2;
         clear c0 c1 c2 c3 h2 k2)
      | (refine wpList_store_agg rfl 31 _ _ rfl (g + 2) RK.zero.vals (RK.vals ⟨c.pool, c.queue, none, 0, 0, none, 0, 0⟩) rfl rfl ?hz rfl (sizeR _) (RK.ones_vals _) ?_; (case hz => exact j3); intro w4 j4 f4 t4;
         have h4 : w4.heap[g]? = some (vobj 24 c.vals) := (f4.block g (by omega) (by show ¬ (g = g + 2); omega)).trans h3;
         have k4 : w4.heap[g + 1]? = some (vobj 31 RK.zero.vals) := (f4.block (g + 1) (by omega) (by show ¬ (g + 1 = g + 2); omega)).trans k3;
         have F4 := Lib.hid f4;
         obtain ⟨c0, c1, c2, c3, _⟩ := Cnf.cells_vals h4;
         obtain ⟨d0, d1, _⟩ := RK.cells_vals j4;
         clear f4 h3 k3 j3)
      | (refine wpList_build_agg rfl 31 _ rfl (RK.vals ⟨c.sem, 0, none, 0, 0, none, 0, 0⟩) ?hb ?_; (case hb => exact buildR2 c _))
      | (refine wpList_store_agg rfl 31 _ _ rfl (g + 2) (RK.vals ⟨c.pool, c.queue, none, 0, 0, none, 0, 0⟩) (RK.vals ⟨c.sem, 0, none, 0, 0, none, 0, 0⟩) rfl rfl ?hz rfl (sizeR _) (RK.ones_vals _) ?_; (case hz => exact j4); intro w5 j5 f5 t5;
         have h5 : w5.heap[g]? = some (vobj 24 c.vals) := (f5.block g (by omega) (by show ¬ (g = g + 2); omega)).trans h4;
         have k5 : w5.heap[g + 1]? = some (vobj 31 RK.zero.vals) := (f5.block (g + 1) (by omega) (by show ¬ (g + 1 = g + 2); omega)).trans k4;
         have F5 : Hid (Frm (· = g + 2) w3 w5) := Lib.hid (F4.out.trans f5 (fun _ _ h => h));
         clear c0 c1 c2 c3 d0 d1;
         obtain ⟨c0, c1, c2, c3, _⟩ := Cnf.cells_vals h5;
         obtain ⟨d0, d1, _⟩ := RK.cells_vals j5;
         clear f5 h4 k4 j4)
      | (refine wpList_load_agg rfl 31 _ rfl (g + 2) rfl (RK.vals ⟨c.sem, 0, none, 0, 0, none, 0, 0⟩) ?hy _ HU.out rfl (sizeR _) ?_; (case hy => exact j5))
      | (refine wpList_store_agg rfl 31 _ _ rfl (g + 1) RK.zero.vals (RK.vals ⟨c.sem, 0, none, 0, 0, none, 0, 0⟩) rfl rfl ?hz rfl (sizeR _) (RK.ones_vals _) ?_; (case hz => exact k5); intro w6 h6 f6 t6))
    refine bodyPost_ret (v := .tuple #[.agg (aggV (RK.vals ⟨c.sem, 0, none, 0, 0, none, 0, 0⟩)), .bool false]) (results_agg1 Try.results11 rfl (loadR h6) (by first | rfl | simp)) rfl ⟨rfl, ?_⟩
    subst hg
    exact ((l1.trans (l2.mono (by omega))).trans (l3.mono (by omega))).trans ((F5.out.below (by omega) (fun j hj e => by omega)).trans (f6.below (by omega) (fun j hj e => by omega)))

set_option maxRecDepth 100000 in
set_option maxHeartbeats 1000000 in
theorem rnew_bad (c : Cnf) (w : World) (e2 : c.mode ≠ 2) (e1 : (c.mode = 1 ∧ ((c.pool < 0 ∨ 8 < c.pool) ∨ (c.queue < 0 ∨ 8 < c.queue))) ∨ (c.mode ≠ 1 ∧ c.mode ≠ 2)) :
    Calls Try.prog 11 #[.agg (aggV c.vals)] w fun r w' => r = .returned (.tuple #[.agg (aggV (RK.vals ⟨c.pool, c.queue, none, 0, 0, none, 0, 0⟩)), .bool false]) ∧ Below w.heap.size w w' := by
  obtain ⟨fs, hu⟩ := undR
  have HU := Lib.hid hu
  obtain ⟨g, hg⟩ : ∃ g, w.heap.size = g := ⟨_, rfl⟩
  clear hu
  have e1 : ¬ 1 ≤ c.mode ∨ (1 ≤ c.mode ∧ ¬ c.mode ≤ 2) ∨ ((1 ≤ c.mode ∧ c.mode ≤ 2) ∧ ¬ 0 ≤ c.pool) ∨ ((1 ≤ c.mode ∧ c.mode ≤ 2) ∧ 0 ≤ c.pool ∧ ¬ c.pool ≤ 8) ∨ ((1 ≤ c.mode ∧ c.mode ≤ 2) ∧ 0 ≤ c.pool ∧ c.pool ≤ 8 ∧ ¬ 0 ≤ c.queue) ∨ ((1 ≤ c.mode ∧ c.mode ≤ 2) ∧ 0 ≤ c.pool ∧ c.pool ≤ 8 ∧ 0 ≤ c.queue ∧ ¬ c.queue ≤ 8) := by omega
  have e2' : (c.mode == 2) = false := by simp [e2]
  clear e2
  rcases e1 with e1 | ⟨e1, e3⟩ | ⟨⟨e1, e3⟩, e4⟩ | ⟨⟨e1, e3⟩, e4, e5⟩ | ⟨⟨e1, e3⟩, e4, e5, e6⟩ | ⟨⟨e1, e3⟩, e4, e5, e6, e7⟩
  all_goals
    go_enter Try.func11, Try.ntmps11
    go_wp2_with (first
      | (refine wpList_box_agg rfl 24 _ rfl g hg c.vals rfl ?_; intro w1 h1 l1 t1)
      | (refine wpList_alloc_agg rfl 31 rfl (g + 1) t1 RK.zero.vals (allocR _) ?_; intro w2 k2 l2 t2;
         have h2 : w2.heap[g]? = some (vobj 24 c.vals) := (l2.block g (by omega)).trans h1;
         obtain ⟨c0, c1, c2, c3, _⟩ := Cnf.cells_vals h2;
         clear h1)
      | (refine wpList_build_agg rfl 31 _ rfl (RK.vals ⟨c.pool, c.queue, none, 0, 0, none, 0, 0⟩) ?hb ?_; (case hb => exact buildR c _))
      | (refine wpList_alloc_agg rfl 31 rfl (g + 2) t2 RK.zero.vals (allocR _) ?_; intro w3 j3 l3 t3;
         have h3 : w3.heap[g]? = some (vobj 24 c.vals) := (l3.block g (by omega)).trans h2;
         have k3 : w3.heap[g + 1]? = some (vobj 31 RK.zero.vals) := (l3.block (g + 1) (by omega)).trans k2;
         clear c0 c1 c2 c3 h2 k2)
      | (refine wpList_store_agg rfl 31 _ _ rfl (g + 2) RK.zero.vals (RK.vals ⟨c.pool, c.queue, none, 0, 0, none, 0, 0⟩) rfl rfl ?hz rfl (sizeR _) (RK.ones_vals _) ?_; (case hz => exact j3); intro w5 j5 f4 t5;
         have h5 : w5.heap[g]? = some (vobj 24 c.vals) := (f4.block g (by omega) (by show ¬ (g = g + 2); omega)).trans h3;
         have k5 : w5.heap[g + 1]? = some (vobj 31 RK.zero.vals) := (f4.block (g + 1) (by omega) (by show ¬ (g + 1 = g + 2); omega)).trans k3;
         have F5 := Lib.hid f4;
         obtain ⟨c0, c1, c2, c3, _⟩ := Cnf.cells_vals h5;
         obtain ⟨d0, d1, _⟩ := RK.cells_vals j5;
         clear f4 h3 k3 j3)
      | (refine wpList_load_agg rfl 31 _ rfl (g + 2) rfl (RK.vals ⟨c.pool, c.queue, none, 0, 0, none, 0, 0⟩) ?hy _ HU.out rfl (sizeR _) ?_; (case hy => exact j5))
      | (refine wpList_store_agg rfl 31 _ _ rfl (g + 1) RK.zero.vals (RK.vals ⟨c.pool, c.queue, none, 0, 0, none, 0, 0⟩) rfl rfl ?hz rfl (sizeR _) (RK.ones_vals _) ?_; (case hz => exact k5); intro w6 h6 f6 t6))
    refine bodyPost_ret (v := .tuple #[.agg (aggV (RK.vals ⟨c.pool, c.queue, none, 0, 0, none, 0, 0⟩)), .bool false]) (results_agg1 Try.results11 rfl (loadR h6) (by first | rfl | simp)) rfl ⟨rfl, ?_⟩
    subst hg
    exact ((l1.trans (l2.mono (by omega))).trans (l3.mono (by omega))).trans ((F5.out.below (by omega) (fun j hj e => by omega)).trans (f6.below (by omega) (fun j hj e => by omega)))

theorem rnew_bulk (c : Cnf) (most que : Nat) (w : World) (h : c.Bulk most que) :
    Calls Try.prog 11 #[.agg (aggV c.vals)] w fun r w' => r = .returned (.tuple #[.agg (aggV (RK.ofC c).vals), .bool true]) ∧ Below w.heap.size w w' := by
  obtain ⟨_, _, ⟨e0, e1, e2⟩ | ⟨e0, e1, e2⟩⟩ := h
  · rw [show RK.ofC c = ⟨c.pool, c.queue, none, 0, 0, none, 0, 0⟩ by unfold RK.ofC; rw [if_neg (by omega)]]
    exact rnew_pool c w e0 (by omega)
  · rw [show RK.ofC c = ⟨c.sem, 0, none, 0, 0, none, 0, 0⟩ by unfold RK.ofC; rw [if_pos e0]]
    exact rnew_sem c w e0 (by omega)
theorem rnew_nobulk (c : Cnf) (w : World) (h : c.NoBulk) :
    Calls Try.prog 11 #[.agg (aggV c.vals)] w fun r w' => r = .returned (.tuple #[.agg (aggV (RK.ofC c).vals), .bool false]) ∧ Below w.heap.size w w' := by
  by_cases e0 : c.mode = 2
  · rw [show RK.ofC c = ⟨c.sem, 0, none, 0, 0, none, 0, 0⟩ by unfold RK.ofC; rw [if_pos e0]]
    refine rnew_sem_bad c w e0 ?_
    rcases h with ⟨e, _⟩ | ⟨_, e⟩ | ⟨_, e⟩
    · omega
    · exact e
    · exact (e e0).elim
  · rw [show RK.ofC c = ⟨c.pool, c.queue, none, 0, 0, none, 0, 0⟩ by unfold RK.ofC; rw [if_neg e0]]
    refine rnew_bad c w e0 ?_
    rcases h with e | ⟨e, _⟩ | e
    · exact .inl e
    · exact (e0 e).elim
    · exact .inr e
end Go.Proofs.Ytnmcnniilihecaa
