/- Contracts of porpoiseref09: the document's breaker, by value. -/
import Derived.Test.YtnggcegoomhneaaBrk
namespace Go.Proofs.Ytnggcegoomhneaa
set_option linter.unusedVariables false
open Go.ChangeShapes Go.WideShapes Go.ChangeAt Go.RowKit

namespace BK
/-- As the document's struct. -/
def vals (x : BK) : List Value := [.int .i64 x.state, .int .u64 x.since, .int .u64 x.sleep, .int .i64 x.force]
def zero : BK := ⟨0, 0, 0, 0⟩
theorem len_vals (x : BK) : x.vals.length = 4 := rfl
theorem ones_vals (x : BK) : Ones x.vals := by intro v hv; simp only [vals, List.mem_cons, List.not_mem_nil, or_false] at hv; rcases hv with rfl | rfl | rfl | rfl <;> rfl
theorem cells_vals {w : World} {g : Nat} {ty : TypeId} {x : BK} (h : w.heap[g]? = some (vobj ty x.vals)) : w.cell? ⟨g, 0, none⟩ = some (.int .i64 x.state) ∧ w.cell? ⟨g, 1, none⟩ = some (.int .u64 x.since) ∧ w.cell? ⟨g, 2, none⟩ = some (.int .u64 x.sleep) ∧ w.cell? ⟨g, 3, none⟩ = some (.int .i64 x.force) :=
  ⟨vobj_cell h rfl, vobj_cell h rfl, vobj_cell h rfl, vobj_cell h rfl⟩
theorem set_state {w : World} {g : Nat} {ty : TypeId} {x : BK} (h : w.heap[g]? = some (vobj ty x.vals)) (n : Int) : (w.setCell ⟨g, 0, none⟩ (.int .i64 n)).heap[g]? = some (vobj ty { x with state := n }.vals) := vobj_set h 0 (.int .i64 n)
theorem set_since {w : World} {g : Nat} {ty : TypeId} {x : BK} (h : w.heap[g]? = some (vobj ty x.vals)) (n : Int) : (w.setCell ⟨g, 1, none⟩ (.int .u64 n)).heap[g]? = some (vobj ty { x with since := n }.vals) := vobj_set h 1 (.int .u64 n)
end BK
theorem undB : ∃ fs, Try.prog.underlying 30 = some (.struct fs) := ⟨_, Try.underlying30⟩
theorem sizeB (x : BK) : (Try.prog.info? 30).map (·.size) = some x.vals.length := by rw [x.len_vals]; kernel_rfl
theorem allocB (w : World) : (Instr.alloc 30 true (.tuple #[])).run Try.prog w = .ok (.pointer (some ⟨w.heap.size, 0, none⟩)) (w.alloc (vobj 30 BK.zero.vals)) := by kernel_rfl
theorem loadB {w : World} {g : Nat} {x : BK} (h : w.heap[g]? = some (vobj 30 x.vals)) : (loadVar 30 ⟨g, 0, none⟩).run Try.prog w = .ok (.agg (aggV x.vals)) w := by
  obtain ⟨fs, hu⟩ := undB
  exact run_load_agg w _ g x.vals _ h hu rfl (sizeB x)

set_option maxRecDepth 100000 in
set_option maxHeartbeats 1000000 in
theorem rnew_any (c : Cnf) (w : World) :
    Calls Try.prog 11 #[.agg (aggV c.vals)] w fun r w' => r = .returned (.agg (aggV (BK.ofC c).vals)) ∧ Below w.heap.size w w' := by
  obtain ⟨g, hg⟩ : ∃ g, w.heap.size = g := ⟨_, rfl⟩
  go_enter Try.func11, Try.ntmps11
  go_wp2_with (first
    | (refine wpList_box_agg rfl 24 _ rfl g hg c.vals rfl ?_; intro w1 h1 l1 s1)
    | (refine wpList_alloc_agg rfl 30 rfl (g + 1) s1 BK.zero.vals (allocB _) ?_; intro w2 h2 l2 s2;
       have h12 : w2.heap[g]? = some (vobj 24 c.vals) := (l2.block g (by omega)).trans h1;
       obtain ⟨c0, c1, c2, c3, c4, c5, c6, c7, c8, c9, c10, c11, c12, c13, c14, c15⟩ := Cnf.cells_vals h12;
       clear h12 c0 c1 c2 c3 c4 c5 c6 c7 c8 c9 c11 c12 c13 c14)
    | (refine wpList_build_agg rfl 30 _ rfl (BK.ofC c).vals ?hb ?_; (case hb => kernel_rfl))
    | (refine wpList_store_agg rfl 30 _ _ rfl (g + 1) BK.zero.vals (BK.ofC c).vals rfl rfl h2 rfl (sizeB _) (BK.ones_vals _) ?_; intro w3 h3 f3 s3))
  refine bodyPost_ret (v := .agg (aggV (BK.ofC c).vals)) (results_agg Try.results11 rfl (loadB h3)) rfl ⟨rfl, ?_⟩
  subst hg
  exact (l1.trans (l2.mono (by omega))).trans (f3.below (by omega) (fun j hj e => by omega))


set_option maxRecDepth 100000 in
set_option maxHeartbeats 1000000 in
theorem rask_any (now : Int) (x : BK) (w : World) (hx : x.Fits) (hn : 0 ≤ now ∧ now ≤ 18446744073709551615) :
    Calls Try.prog 22 #[.agg (aggV x.vals), .int .u64 now] w fun r w' => r = .returned (.tuple #[.agg (aggV (x.ask now).vals), .int .i64 (x.asked now)]) ∧ Below w.heap.size w w' := by
  obtain ⟨fs, hu⟩ := undB
  have HU := Lib.hid hu
  clear hu
  obtain ⟨g, hg⟩ : ∃ g, w.heap.size = g := ⟨_, rfl⟩
  by_cases f1 : x.force = 1
  · have f1' : (x.force == 1) = true := by simp [f1]
    have e1 : x.asked now = 3 := by simp [BK.asked, f1]
    have e2 : x.ask now = x := by simp [BK.ask, BK.wakes, f1]
    rw [e1, e2]
    clear e1 e2 f1 hx hn
    go_enter Try.func22, Try.ntmps22
    go_wp2_with (first
      | (refine wpList_box_agg rfl 30 _ rfl g hg x.vals rfl ?_; intro w1 h1 l1 t1)
      | (refine wpList_alloc_agg rfl 30 rfl (g + 1) t1 BK.zero.vals (allocB _) ?_; intro w2 k2 l2 t2;
         have h2 : w2.heap[g]? = some (vobj 30 x.vals) := (l2.block g (by omega)).trans h1;
         have F2 : Hid (Frm (· = g) w2 w2) := Lib.hid (Frm.refl _ _);
         obtain ⟨c0, c1, c2, c3⟩ := BK.cells_vals h2;
         clear h1)
      | (refine wpList_load_agg rfl 30 _ rfl g rfl (x).vals ?hy _ HU.out rfl (sizeB _) ?_; (case hy => exact h2))
      | (refine wpList_store_agg rfl 30 _ _ rfl (g + 1) BK.zero.vals (x).vals rfl rfl ?hz rfl (sizeB _) (BK.ones_vals _) ?_; (case hz => exact k2); intro w9 h9 f9 t9))
    refine bodyPost_ret (v := .tuple #[.agg (aggV (x).vals), .int .i64 3]) (results_agg1 Try.results22 rfl (loadB h9) rfl) rfl ⟨rfl, ?_⟩
    have hff := F2.out
    subst hg
    exact ((l1.trans (l2.mono (by omega))).trans (hff.below (by omega) (fun j hj e => by omega))).trans (f9.below (by omega) (fun j hj e => by omega))
  · have f1' : (x.force == 1) = false := by simp [f1]
    by_cases f2 : x.force = 2
    · have f2' : (x.force == 2) = true := by simp [f2]
      have e1 : x.asked now = 1 := by simp [BK.asked, f2]
      have e2 : x.ask now = x := by simp [BK.ask, BK.wakes, f2]
      rw [e1, e2]
      clear e1 e2 f1 f2 hx hn
      go_enter Try.func22, Try.ntmps22
      go_wp2_with (first
        | (refine wpList_box_agg rfl 30 _ rfl g hg x.vals rfl ?_; intro w1 h1 l1 t1)
        | (refine wpList_alloc_agg rfl 30 rfl (g + 1) t1 BK.zero.vals (allocB _) ?_; intro w2 k2 l2 t2;
           have h2 : w2.heap[g]? = some (vobj 30 x.vals) := (l2.block g (by omega)).trans h1;
           have F2 : Hid (Frm (· = g) w2 w2) := Lib.hid (Frm.refl _ _);
           obtain ⟨c0, c1, c2, c3⟩ := BK.cells_vals h2;
           clear h1)
        | (refine wpList_load_agg rfl 30 _ rfl g rfl (x).vals ?hy _ HU.out rfl (sizeB _) ?_; (case hy => exact h2))
        | (refine wpList_store_agg rfl 30 _ _ rfl (g + 1) BK.zero.vals (x).vals rfl rfl ?hz rfl (sizeB _) (BK.ones_vals _) ?_; (case hz => exact k2); intro w9 h9 f9 t9))
      refine bodyPost_ret (v := .tuple #[.agg (aggV (x).vals), .int .i64 1]) (results_agg1 Try.results22 rfl (loadB h9) rfl) rfl ⟨rfl, ?_⟩
      have hff := F2.out
      subst hg
      exact ((l1.trans (l2.mono (by omega))).trans (hff.below (by omega) (fun j hj e => by omega))).trans (f9.below (by omega) (fun j hj e => by omega))
    · have f2' : (x.force == 2) = false := by simp [f2]
      by_cases s1 : x.state = 1
      · have s1' : (x.state == 1) = true := by simp [s1]
        have e1 : x.asked now = 1 := by simp [BK.asked, f1, s1]
        have e2 : x.ask now = x := by simp [BK.ask, BK.wakes, s1]
        rw [e1, e2]
        clear e1 e2 f1 f2 s1 hx hn
        go_enter Try.func22, Try.ntmps22
        go_wp2_with (first
          | (refine wpList_box_agg rfl 30 _ rfl g hg x.vals rfl ?_; intro w1 h1 l1 t1)
          | (refine wpList_alloc_agg rfl 30 rfl (g + 1) t1 BK.zero.vals (allocB _) ?_; intro w2 k2 l2 t2;
             have h2 : w2.heap[g]? = some (vobj 30 x.vals) := (l2.block g (by omega)).trans h1;
             have F2 : Hid (Frm (· = g) w2 w2) := Lib.hid (Frm.refl _ _);
             obtain ⟨c0, c1, c2, c3⟩ := BK.cells_vals h2;
             clear h1)
          | (refine wpList_load_agg rfl 30 _ rfl g rfl (x).vals ?hy _ HU.out rfl (sizeB _) ?_; (case hy => exact h2))
          | (refine wpList_store_agg rfl 30 _ _ rfl (g + 1) BK.zero.vals (x).vals rfl rfl ?hz rfl (sizeB _) (BK.ones_vals _) ?_; (case hz => exact k2); intro w9 h9 f9 t9))
        refine bodyPost_ret (v := .tuple #[.agg (aggV (x).vals), .int .i64 1]) (results_agg1 Try.results22 rfl (loadB h9) rfl) rfl ⟨rfl, ?_⟩
        have hff := F2.out
        subst hg
        exact ((l1.trans (l2.mono (by omega))).trans (hff.below (by omega) (fun j hj e => by omega))).trans (f9.below (by omega) (fun j hj e => by omega))
      · have s1' : (x.state == 1) = false := by simp [s1]
        by_cases s2 : x.state = 2
        · have s2' : (x.state == 2) = true := by simp [s2]
          have hadd := fun v => radd_any x.since x.sleep v hx.since.1 hx.sleep.1 hx.since.2 hx.sleep.2
          by_cases hw : addS x.since x.sleep ≤ now
          · have e1 : x.asked now = 2 := by simp [BK.asked, BK.wakes, f1, f2, s2, hw]
            have e2 : x.ask now = { x with state := 3 } := by simp [BK.ask, BK.wakes, f1, f2, s2, hw]
            rw [e1, e2]
            clear e1 e2 f1 f2 s1 s2 hx hn
            generalize addS x.since x.sleep = z at *
            have HA := Lib.hid hadd
            clear hadd
            go_enter Try.func22, Try.ntmps22
            go_wp2_with (first
              | (refine wpList_box_agg rfl 30 _ rfl g hg x.vals rfl ?_; intro w1 h1 l1 t1)
              | (refine wpList_alloc_agg rfl 30 rfl (g + 1) t1 BK.zero.vals (allocB _) ?_; intro w2 k2 l2 t2;
                 have h2 : w2.heap[g]? = some (vobj 30 x.vals) := (l2.block g (by omega)).trans h1;
                 have F2 : Hid (Frm (· = g) w2 w2) := Lib.hid (Frm.refl _ _);
                 obtain ⟨c0, c1, c2, c3⟩ := BK.cells_vals h2;
                 clear h1)
              | (refine wpList_store_one rfl 3 _ _ rfl g 0 30 (x).vals (.int .i64 3) rfl rfl ?hb (by rw [BK.len_vals]; decide) (by kernel_rfl) rfl rfl ?_; (case hb => exact h2);
                 intro w3 i3 f3 t3;
                 have h3 : w3.heap[g]? = some (vobj 30 ({ x with state := 3 }).vals) := i3;
                 have k3 : w3.heap[g + 1]? = some (vobj 30 BK.zero.vals) := (f3.block (g + 1) (by omega) (by simp)).trans k2;
                 have F3 : Hid (Frm (· = g) w2 w3) := Lib.hid (F2.out.trans f3 (fun _ _ h => h));
                 replace t3 : w3.heap.size = g + 1 + 1 := (by omega); clear i3 f3)
              | (refine wpList_load_agg rfl 30 _ rfl g rfl ({ x with state := 3 }).vals ?hy _ HU.out rfl (sizeB _) ?_; (case hy => exact h3))
              | (refine wpList_store_agg rfl 30 _ _ rfl (g + 1) BK.zero.vals ({ x with state := 3 }).vals rfl rfl ?hz rfl (sizeB _) (BK.ones_vals _) ?_; (case hz => exact k3); intro w9 h9 f9 t9)
              | (go_at_call 12; refine (HA.out _).mono ?_; rintro r wr ⟨rfl, rfl⟩))
            refine bodyPost_ret (v := .tuple #[.agg (aggV ({ x with state := 3 }).vals), .int .i64 2]) (results_agg1 Try.results22 rfl (loadB h9) rfl) rfl ⟨rfl, ?_⟩
            have hff := F3.out
            subst hg
            exact ((l1.trans (l2.mono (by omega))).trans (hff.below (by omega) (fun j hj e => by omega))).trans (f9.below (by omega) (fun j hj e => by omega))
          · have e1 : x.asked now = 3 := by simp [BK.asked, BK.wakes, f1, f2, s2, hw]
            have e2 : x.ask now = x := by simp [BK.ask, BK.wakes, f1, f2, s2, hw]
            rw [e1, e2]
            clear e1 e2 f1 f2 s1 s2 hx hn
            generalize addS x.since x.sleep = z at *
            have HA := Lib.hid hadd
            clear hadd
            go_enter Try.func22, Try.ntmps22
            go_wp2_with (first
              | (refine wpList_box_agg rfl 30 _ rfl g hg x.vals rfl ?_; intro w1 h1 l1 t1)
              | (refine wpList_alloc_agg rfl 30 rfl (g + 1) t1 BK.zero.vals (allocB _) ?_; intro w2 k2 l2 t2;
                 have h2 : w2.heap[g]? = some (vobj 30 x.vals) := (l2.block g (by omega)).trans h1;
                 have F2 : Hid (Frm (· = g) w2 w2) := Lib.hid (Frm.refl _ _);
                 obtain ⟨c0, c1, c2, c3⟩ := BK.cells_vals h2;
                 clear h1)
              | (refine wpList_load_agg rfl 30 _ rfl g rfl (x).vals ?hy _ HU.out rfl (sizeB _) ?_; (case hy => exact h2))
              | (refine wpList_store_agg rfl 30 _ _ rfl (g + 1) BK.zero.vals (x).vals rfl rfl ?hz rfl (sizeB _) (BK.ones_vals _) ?_; (case hz => exact k2); intro w9 h9 f9 t9)
              | (go_at_call 12; refine (HA.out _).mono ?_; rintro r wr ⟨rfl, rfl⟩))
            refine bodyPost_ret (v := .tuple #[.agg (aggV (x).vals), .int .i64 3]) (results_agg1 Try.results22 rfl (loadB h9) rfl) rfl ⟨rfl, ?_⟩
            have hff := F2.out
            subst hg
            exact ((l1.trans (l2.mono (by omega))).trans (hff.below (by omega) (fun j hj e => by omega))).trans (f9.below (by omega) (fun j hj e => by omega))
        · have s2' : (x.state == 2) = false := by simp [s2]
          have e1 : x.asked now = 3 := by simp [BK.asked, BK.wakes, f1, f2, s1, s2]
          have e2 : x.ask now = x := by simp [BK.ask, BK.wakes, s2]
          rw [e1, e2]
          clear e1 e2 f1 f2 s1 s2 hx hn
          go_enter Try.func22, Try.ntmps22
          go_wp2_with (first
            | (refine wpList_box_agg rfl 30 _ rfl g hg x.vals rfl ?_; intro w1 h1 l1 t1)
            | (refine wpList_alloc_agg rfl 30 rfl (g + 1) t1 BK.zero.vals (allocB _) ?_; intro w2 k2 l2 t2;
               have h2 : w2.heap[g]? = some (vobj 30 x.vals) := (l2.block g (by omega)).trans h1;
               have F2 : Hid (Frm (· = g) w2 w2) := Lib.hid (Frm.refl _ _);
               obtain ⟨c0, c1, c2, c3⟩ := BK.cells_vals h2;
               clear h1)
            | (refine wpList_load_agg rfl 30 _ rfl g rfl (x).vals ?hy _ HU.out rfl (sizeB _) ?_; (case hy => exact h2))
            | (refine wpList_store_agg rfl 30 _ _ rfl (g + 1) BK.zero.vals (x).vals rfl rfl ?hz rfl (sizeB _) (BK.ones_vals _) ?_; (case hz => exact k2); intro w9 h9 f9 t9))
          refine bodyPost_ret (v := .tuple #[.agg (aggV (x).vals), .int .i64 3]) (results_agg1 Try.results22 rfl (loadB h9) rfl) rfl ⟨rfl, ?_⟩
          have hff := F2.out
          subst hg
          exact ((l1.trans (l2.mono (by omega))).trans (hff.below (by omega) (fun j hj e => by omega))).trans (f9.below (by omega) (fun j hj e => by omega))

set_option maxRecDepth 100000 in
set_option maxHeartbeats 1000000 in
theorem rtrip_any (now : Int) (x : BK) (w : World) :
    Calls Try.prog 23 #[.agg (aggV x.vals), .int .u64 now] w fun r w' => r = .returned (.tuple #[.agg (aggV (x.trip now).vals), .bool x.trips]) ∧ Below w.heap.size w w' := by
  obtain ⟨fs, hu⟩ := undB
  have HU := Lib.hid hu
  clear hu
  obtain ⟨g, hg⟩ : ∃ g, w.heap.size = g := ⟨_, rfl⟩
  by_cases hs : x.state = 1
  · have hs' : (x.state != 1) = false := by simp [hs]
    by_cases hf : x.force = 0
    · have hf' : (x.force != 0) = false := by simp [hf]
      have e1 : x.trips = true := by simp [BK.trips, hf, hs]
      have e2 : x.trip now = { x with state := 2, since := now } := by simp [BK.trip, hf, hs]
      rw [e1, e2]
      clear hf hs e1 e2
      go_enter Try.func23, Try.ntmps23
      go_wp2_with (first
        | (refine wpList_box_agg rfl 30 _ rfl g hg x.vals rfl ?_; intro w1 h1 l1 t1)
        | (refine wpList_alloc_agg rfl 30 rfl (g + 1) t1 BK.zero.vals (allocB _) ?_; intro w2 k2 l2 t2;
           have h2 : w2.heap[g]? = some (vobj 30 x.vals) := (l2.block g (by omega)).trans h1;
           have F2 : Hid (Frm (· = g) w2 w2) := Lib.hid (Frm.refl _ _);
           obtain ⟨c0, c1, c2, c3⟩ := BK.cells_vals h2;
           clear h1)
        | (refine wpList_store_one rfl 3 _ _ rfl g 0 30 (x).vals (.int .i64 2) rfl rfl ?hb (by rw [BK.len_vals]; decide) (by kernel_rfl) rfl rfl ?_; (case hb => exact h2);
           intro w3 i3 f3 t3;
           have h3 : w3.heap[g]? = some (vobj 30 ({ x with state := 2 }).vals) := i3;
           have k3 : w3.heap[g + 1]? = some (vobj 30 BK.zero.vals) := (f3.block (g + 1) (by omega) (by simp)).trans k2;
           have F3 : Hid (Frm (· = g) w2 w3) := Lib.hid (F2.out.trans f3 (fun _ _ h => h));
           replace t3 : w3.heap.size = g + 1 + 1 := (by omega); clear i3 f3)
        | (refine wpList_store_one rfl 22 _ _ rfl g 1 30 ({ x with state := 2 }).vals (.int .u64 now) rfl rfl ?hb (by rw [BK.len_vals]; decide) (by kernel_rfl) rfl rfl ?_; (case hb => exact h3);
           intro w4 i4 f4 t4;
           have h4 : w4.heap[g]? = some (vobj 30 ({ x with state := 2, since := now }).vals) := i4;
           have k4 : w4.heap[g + 1]? = some (vobj 30 BK.zero.vals) := (f4.block (g + 1) (by omega) (by simp)).trans k3;
           have F4 : Hid (Frm (· = g) w2 w4) := Lib.hid (F3.out.trans f4 (fun _ _ h => h));
           replace t4 : w4.heap.size = g + 1 + 1 := (by omega); clear i4 f4)
        | (refine wpList_load_agg rfl 30 _ rfl g rfl ({ x with state := 2, since := now }).vals ?hy _ HU.out rfl (sizeB _) ?_; (case hy => exact h4))
        | (refine wpList_store_agg rfl 30 _ _ rfl (g + 1) BK.zero.vals ({ x with state := 2, since := now }).vals rfl rfl ?hz rfl (sizeB _) (BK.ones_vals _) ?_; (case hz => exact k4); intro w9 h9 f9 t9))
      refine bodyPost_ret (v := .tuple #[.agg (aggV ({ x with state := 2, since := now }).vals), .bool true]) (results_agg1 Try.results23 rfl (loadB h9) rfl) rfl ⟨rfl, ?_⟩
      have hff := F4.out
      subst hg
      exact ((l1.trans (l2.mono (by omega))).trans (hff.below (by omega) (fun j hj e => by omega))).trans (f9.below (by omega) (fun j hj e => by omega))
    · have hf' : (x.force != 0) = true := by simp [hf]
      have e1 : x.trips = false := by simp [BK.trips, hf]
      have e2 : x.trip now = x := by simp [BK.trip, hf]
      rw [e1, e2]
      clear hf hs e1 e2
      go_enter Try.func23, Try.ntmps23
      go_wp2_with (first
        | (refine wpList_box_agg rfl 30 _ rfl g hg x.vals rfl ?_; intro w1 h1 l1 t1)
        | (refine wpList_alloc_agg rfl 30 rfl (g + 1) t1 BK.zero.vals (allocB _) ?_; intro w2 k2 l2 t2;
           have h2 : w2.heap[g]? = some (vobj 30 x.vals) := (l2.block g (by omega)).trans h1;
           have F2 : Hid (Frm (· = g) w2 w2) := Lib.hid (Frm.refl _ _);
           obtain ⟨c0, c1, c2, c3⟩ := BK.cells_vals h2;
           clear h1)
        | (refine wpList_load_agg rfl 30 _ rfl g rfl (x).vals ?hy _ HU.out rfl (sizeB _) ?_; (case hy => exact h2))
        | (refine wpList_store_agg rfl 30 _ _ rfl (g + 1) BK.zero.vals (x).vals rfl rfl ?hz rfl (sizeB _) (BK.ones_vals _) ?_; (case hz => exact k2); intro w9 h9 f9 t9))
      refine bodyPost_ret (v := .tuple #[.agg (aggV (x).vals), .bool false]) (results_agg1 Try.results23 rfl (loadB h9) rfl) rfl ⟨rfl, ?_⟩
      have hff := F2.out
      subst hg
      exact ((l1.trans (l2.mono (by omega))).trans (hff.below (by omega) (fun j hj e => by omega))).trans (f9.below (by omega) (fun j hj e => by omega))
  · have hs' : (x.state != 1) = true := by simp [hs]
    have e1 : x.trips = false := by simp [BK.trips, hs]
    have e2 : x.trip now = x := by simp [BK.trip, hs]
    rw [e1, e2]
    clear hs e1 e2
    go_enter Try.func23, Try.ntmps23
    go_wp2_with (first
      | (refine wpList_box_agg rfl 30 _ rfl g hg x.vals rfl ?_; intro w1 h1 l1 t1)
      | (refine wpList_alloc_agg rfl 30 rfl (g + 1) t1 BK.zero.vals (allocB _) ?_; intro w2 k2 l2 t2;
         have h2 : w2.heap[g]? = some (vobj 30 x.vals) := (l2.block g (by omega)).trans h1;
         have F2 : Hid (Frm (· = g) w2 w2) := Lib.hid (Frm.refl _ _);
         obtain ⟨c0, c1, c2, c3⟩ := BK.cells_vals h2;
         clear h1)
      | (refine wpList_load_agg rfl 30 _ rfl g rfl (x).vals ?hy _ HU.out rfl (sizeB _) ?_; (case hy => exact h2))
      | (refine wpList_store_agg rfl 30 _ _ rfl (g + 1) BK.zero.vals (x).vals rfl rfl ?hz rfl (sizeB _) (BK.ones_vals _) ?_; (case hz => exact k2); intro w9 h9 f9 t9))
    refine bodyPost_ret (v := .tuple #[.agg (aggV (x).vals), .bool false]) (results_agg1 Try.results23 rfl (loadB h9) rfl) rfl ⟨rfl, ?_⟩
    have hff := F2.out
    subst hg
    exact ((l1.trans (l2.mono (by omega))).trans (hff.below (by omega) (fun j hj e => by omega))).trans (f9.below (by omega) (fun j hj e => by omega))

set_option maxRecDepth 100000 in
set_option maxHeartbeats 1000000 in
theorem rdone_any (now : Int) (ok : Bool) (x : BK) (w : World) :
    Calls Try.prog 24 #[.agg (aggV x.vals), .int .u64 now, .bool ok] w fun r w' => r = .returned (.tuple #[.agg (aggV (x.done now ok).vals), .bool x.half]) ∧ Below w.heap.size w w' := by
  obtain ⟨fs, hu⟩ := undB
  have HU := Lib.hid hu
  clear hu
  obtain ⟨g, hg⟩ : ∃ g, w.heap.size = g := ⟨_, rfl⟩
  by_cases hs : x.state = 3
  · have hs' : (x.state != 3) = false := by simp [hs]
    have e1 : x.half = true := by simp [BK.half, hs]
    rw [e1]
    cases ok with
    | true =>
      have e2 : x.done now true = { x with state := 1 } := by simp [BK.done, hs]
      rw [e2]
      clear hs e1 e2
      go_enter Try.func24, Try.ntmps24
      go_wp2_with (first
        | (refine wpList_box_agg rfl 30 _ rfl g hg x.vals rfl ?_; intro w1 h1 l1 t1)
        | (refine wpList_alloc_agg rfl 30 rfl (g + 1) t1 BK.zero.vals (allocB _) ?_; intro w2 k2 l2 t2;
           have h2 : w2.heap[g]? = some (vobj 30 x.vals) := (l2.block g (by omega)).trans h1;
           have F2 : Hid (Frm (· = g) w2 w2) := Lib.hid (Frm.refl _ _);
           obtain ⟨c0, c1, c2, c3⟩ := BK.cells_vals h2;
           clear h1)
        | (refine wpList_store_one rfl 3 _ _ rfl g 0 30 (x).vals (.int .i64 1) rfl rfl ?hb (by rw [BK.len_vals]; decide) (by kernel_rfl) rfl rfl ?_; (case hb => exact h2);
           intro w3 i3 f3 t3;
           have h3 : w3.heap[g]? = some (vobj 30 ({ x with state := 1 }).vals) := i3;
           have k3 : w3.heap[g + 1]? = some (vobj 30 BK.zero.vals) := (f3.block (g + 1) (by omega) (by simp)).trans k2;
           have F3 : Hid (Frm (· = g) w2 w3) := Lib.hid (F2.out.trans f3 (fun _ _ h => h));
           replace t3 : w3.heap.size = g + 1 + 1 := (by omega); clear i3 f3)
        | (refine wpList_load_agg rfl 30 _ rfl g rfl ({ x with state := 1 }).vals ?hy _ HU.out rfl (sizeB _) ?_; (case hy => exact h3))
        | (refine wpList_store_agg rfl 30 _ _ rfl (g + 1) BK.zero.vals ({ x with state := 1 }).vals rfl rfl ?hz rfl (sizeB _) (BK.ones_vals _) ?_; (case hz => exact k3); intro w9 h9 f9 t9))
      refine bodyPost_ret (v := .tuple #[.agg (aggV ({ x with state := 1 }).vals), .bool true]) (results_agg1 Try.results24 rfl (loadB h9) rfl) rfl ⟨rfl, ?_⟩
      have hff := F3.out
      subst hg
      exact ((l1.trans (l2.mono (by omega))).trans (hff.below (by omega) (fun j hj e => by omega))).trans (f9.below (by omega) (fun j hj e => by omega))
    | false =>
      have e2 : x.done now false = { x with state := 2, since := now } := by simp [BK.done, hs]
      rw [e2]
      clear hs e1 e2
      go_enter Try.func24, Try.ntmps24
      go_wp2_with (first
        | (refine wpList_box_agg rfl 30 _ rfl g hg x.vals rfl ?_; intro w1 h1 l1 t1)
        | (refine wpList_alloc_agg rfl 30 rfl (g + 1) t1 BK.zero.vals (allocB _) ?_; intro w2 k2 l2 t2;
           have h2 : w2.heap[g]? = some (vobj 30 x.vals) := (l2.block g (by omega)).trans h1;
           have F2 : Hid (Frm (· = g) w2 w2) := Lib.hid (Frm.refl _ _);
           obtain ⟨c0, c1, c2, c3⟩ := BK.cells_vals h2;
           clear h1)
        | (refine wpList_store_one rfl 3 _ _ rfl g 0 30 (x).vals (.int .i64 1) rfl rfl ?hb (by rw [BK.len_vals]; decide) (by kernel_rfl) rfl rfl ?_; (case hb => exact h2);
           intro w3 i3 f3 t3;
           have h3 : w3.heap[g]? = some (vobj 30 ({ x with state := 1 }).vals) := i3;
           have k3 : w3.heap[g + 1]? = some (vobj 30 BK.zero.vals) := (f3.block (g + 1) (by omega) (by simp)).trans k2;
           have F3 : Hid (Frm (· = g) w2 w3) := Lib.hid (F2.out.trans f3 (fun _ _ h => h));
           replace t3 : w3.heap.size = g + 1 + 1 := (by omega); clear i3 f3)
        | (refine wpList_store_one rfl 3 _ _ rfl g 0 30 ({ x with state := 1 }).vals (.int .i64 2) rfl rfl ?hb (by rw [BK.len_vals]; decide) (by kernel_rfl) rfl rfl ?_; (case hb => exact h3);
           intro w4 i4 f4 t4;
           have h4 : w4.heap[g]? = some (vobj 30 ({ x with state := 2 }).vals) := i4;
           have k4 : w4.heap[g + 1]? = some (vobj 30 BK.zero.vals) := (f4.block (g + 1) (by omega) (by simp)).trans k3;
           have F4 : Hid (Frm (· = g) w2 w4) := Lib.hid (F3.out.trans f4 (fun _ _ h => h));
           replace t4 : w4.heap.size = g + 1 + 1 := (by omega); clear i4 f4)
        | (refine wpList_store_one rfl 22 _ _ rfl g 1 30 ({ x with state := 2 }).vals (.int .u64 now) rfl rfl ?hb (by rw [BK.len_vals]; decide) (by kernel_rfl) rfl rfl ?_; (case hb => exact h4);
           intro w5 i5 f5 t5;
           have h5 : w5.heap[g]? = some (vobj 30 ({ x with state := 2, since := now }).vals) := i5;
           have k5 : w5.heap[g + 1]? = some (vobj 30 BK.zero.vals) := (f5.block (g + 1) (by omega) (by simp)).trans k4;
           have F5 : Hid (Frm (· = g) w2 w5) := Lib.hid (F4.out.trans f5 (fun _ _ h => h));
           replace t5 : w5.heap.size = g + 1 + 1 := (by omega); clear i5 f5)
        | (refine wpList_load_agg rfl 30 _ rfl g rfl ({ x with state := 2, since := now }).vals ?hy _ HU.out rfl (sizeB _) ?_; (case hy => exact h5))
        | (refine wpList_store_agg rfl 30 _ _ rfl (g + 1) BK.zero.vals ({ x with state := 2, since := now }).vals rfl rfl ?hz rfl (sizeB _) (BK.ones_vals _) ?_; (case hz => exact k5); intro w9 h9 f9 t9))
      refine bodyPost_ret (v := .tuple #[.agg (aggV ({ x with state := 2, since := now }).vals), .bool true]) (results_agg1 Try.results24 rfl (loadB h9) rfl) rfl ⟨rfl, ?_⟩
      have hff := F5.out
      subst hg
      exact ((l1.trans (l2.mono (by omega))).trans (hff.below (by omega) (fun j hj e => by omega))).trans (f9.below (by omega) (fun j hj e => by omega))
  · have hs' : (x.state != 3) = true := by simp [hs]
    have e1 : x.half = false := by simp [BK.half, hs]
    have e2 : x.done now ok = x := by simp [BK.done, hs]
    rw [e1, e2]
    clear hs e1 e2
    go_enter Try.func24, Try.ntmps24
    go_wp2_with (first
      | (refine wpList_box_agg rfl 30 _ rfl g hg x.vals rfl ?_; intro w1 h1 l1 t1)
      | (refine wpList_alloc_agg rfl 30 rfl (g + 1) t1 BK.zero.vals (allocB _) ?_; intro w2 k2 l2 t2;
         have h2 : w2.heap[g]? = some (vobj 30 x.vals) := (l2.block g (by omega)).trans h1;
         have F2 : Hid (Frm (· = g) w2 w2) := Lib.hid (Frm.refl _ _);
         obtain ⟨c0, c1, c2, c3⟩ := BK.cells_vals h2;
         clear h1)
      | (refine wpList_load_agg rfl 30 _ rfl g rfl (x).vals ?hy _ HU.out rfl (sizeB _) ?_; (case hy => exact h2))
      | (refine wpList_store_agg rfl 30 _ _ rfl (g + 1) BK.zero.vals (x).vals rfl rfl ?hz rfl (sizeB _) (BK.ones_vals _) ?_; (case hz => exact k2); intro w9 h9 f9 t9))
    refine bodyPost_ret (v := .tuple #[.agg (aggV (x).vals), .bool false]) (results_agg1 Try.results24 rfl (loadB h9) rfl) rfl ⟨rfl, ?_⟩
    have hff := F2.out
    subst hg
    exact ((l1.trans (l2.mono (by omega))).trans (hff.below (by omega) (fun j hj e => by omega))).trans (f9.below (by omega) (fun j hj e => by omega))

set_option maxRecDepth 100000 in
set_option maxHeartbeats 1000000 in
theorem rback_any (x : BK) (w : World) :
    Calls Try.prog 25 #[.agg (aggV x.vals)] w fun r w' => r = .returned (.tuple #[.agg (aggV x.back.vals), .bool x.half]) ∧ Below w.heap.size w w' := by
  obtain ⟨fs, hu⟩ := undB
  have HU := Lib.hid hu
  clear hu
  obtain ⟨g, hg⟩ : ∃ g, w.heap.size = g := ⟨_, rfl⟩
  by_cases hs : x.state = 3
  · have hs' : (x.state != 3) = false := by simp [hs]
    have e1 : x.half = true := by simp [BK.half, hs]
    have e2 : x.back = { x with state := 2 } := by simp [BK.back, hs]
    rw [e1, e2]
    clear hs e1 e2
    go_enter Try.func25, Try.ntmps25
    go_wp2_with (first
      | (refine wpList_box_agg rfl 30 _ rfl g hg x.vals rfl ?_; intro w1 h1 l1 t1)
      | (refine wpList_alloc_agg rfl 30 rfl (g + 1) t1 BK.zero.vals (allocB _) ?_; intro w2 k2 l2 t2;
         have h2 : w2.heap[g]? = some (vobj 30 x.vals) := (l2.block g (by omega)).trans h1;
         have F2 : Hid (Frm (· = g) w2 w2) := Lib.hid (Frm.refl _ _);
         obtain ⟨c0, c1, c2, c3⟩ := BK.cells_vals h2;
         clear h1)
      | (refine wpList_store_one rfl 3 _ _ rfl g 0 30 (x).vals (.int .i64 2) rfl rfl ?hb (by rw [BK.len_vals]; decide) (by kernel_rfl) rfl rfl ?_; (case hb => exact h2);
         intro w3 i3 f3 t3;
         have h3 : w3.heap[g]? = some (vobj 30 ({ x with state := 2 }).vals) := i3;
         have k3 : w3.heap[g + 1]? = some (vobj 30 BK.zero.vals) := (f3.block (g + 1) (by omega) (by simp)).trans k2;
         have F3 : Hid (Frm (· = g) w2 w3) := Lib.hid (F2.out.trans f3 (fun _ _ h => h));
         replace t3 : w3.heap.size = g + 1 + 1 := (by omega); clear i3 f3)
      | (refine wpList_load_agg rfl 30 _ rfl g rfl ({ x with state := 2 }).vals ?hy _ HU.out rfl (sizeB _) ?_; (case hy => exact h3))
      | (refine wpList_store_agg rfl 30 _ _ rfl (g + 1) BK.zero.vals ({ x with state := 2 }).vals rfl rfl ?hz rfl (sizeB _) (BK.ones_vals _) ?_; (case hz => exact k3); intro w9 h9 f9 t9))
    refine bodyPost_ret (v := .tuple #[.agg (aggV ({ x with state := 2 }).vals), .bool true]) (results_agg1 Try.results25 rfl (loadB h9) rfl) rfl ⟨rfl, ?_⟩
    have hff := F3.out
    subst hg
    exact ((l1.trans (l2.mono (by omega))).trans (hff.below (by omega) (fun j hj e => by omega))).trans (f9.below (by omega) (fun j hj e => by omega))
  · have hs' : (x.state != 3) = true := by simp [hs]
    have e1 : x.half = false := by simp [BK.half, hs]
    have e2 : x.back = x := by simp [BK.back, hs]
    rw [e1, e2]
    clear hs e1 e2
    go_enter Try.func25, Try.ntmps25
    go_wp2_with (first
      | (refine wpList_box_agg rfl 30 _ rfl g hg x.vals rfl ?_; intro w1 h1 l1 t1)
      | (refine wpList_alloc_agg rfl 30 rfl (g + 1) t1 BK.zero.vals (allocB _) ?_; intro w2 k2 l2 t2;
         have h2 : w2.heap[g]? = some (vobj 30 x.vals) := (l2.block g (by omega)).trans h1;
         have F2 : Hid (Frm (· = g) w2 w2) := Lib.hid (Frm.refl _ _);
         obtain ⟨c0, c1, c2, c3⟩ := BK.cells_vals h2;
         clear h1)
      | (refine wpList_load_agg rfl 30 _ rfl g rfl (x).vals ?hy _ HU.out rfl (sizeB _) ?_; (case hy => exact h2))
      | (refine wpList_store_agg rfl 30 _ _ rfl (g + 1) BK.zero.vals (x).vals rfl rfl ?hz rfl (sizeB _) (BK.ones_vals _) ?_; (case hz => exact k2); intro w9 h9 f9 t9))
    refine bodyPost_ret (v := .tuple #[.agg (aggV (x).vals), .bool false]) (results_agg1 Try.results25 rfl (loadB h9) rfl) rfl ⟨rfl, ?_⟩
    have hff := F2.out
    subst hg
    exact ((l1.trans (l2.mono (by omega))).trans (hff.below (by omega) (fun j hj e => by omega))).trans (f9.below (by omega) (fun j hj e => by omega))
end Go.Proofs.Ytnggcegoomhneaa
