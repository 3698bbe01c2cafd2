/- Contracts of package conf: firstWrong, Check, Bound, Take. -/
import Derived.Test.YtjbbgfjoplggpaaConfSp
namespace Go.Proofs.Ytjbbgfjoplggpaa
set_option linter.unusedVariables false
open Go.ChangeShapes Go.WideShapes Go.ChangeAt Go.RowKit

theorem flat_two_at : ∀ (l : List (Int × Int)) (k : Nat) (p : Int × Int), l[k]? = some p → ((l.flatMap fun p => two p.1 p.2).drop (k * 2)).take 2 = two p.1 p.2
  | [], k, p, h => by simp at h
  | q :: l, 0, p, h => by simp at h; subst h; rfl
  | q :: l, k + 1, p, h => by
    have := flat_two_at l k p (by simpa using h)
    rw [List.flatMap_cons, show (k + 1) * 2 = (two q.1 q.2).length + k * 2 by simp [two]; omega, List.drop_append, List.drop_of_length_le (by omega : (two q.1 q.2).length ≤ (two q.1 q.2).length + k * 2), Nat.add_sub_cancel_left, List.nil_append]
    exact this
theorem index_span {f : Cnf} {k : Nat} {p : Int × Int} (hk : k < 16) (hp : f.spans[k]? = some p) (v : World) :
    (Instr.index 53 (.agg (aggV (spanV f))) (.int .i64 k)).run Try.prog v = .ok (.agg (aggV (two p.1 p.2))) v := by
  rw [run_index_aggs v _ 52 16 2 (spanV f) .i64 k undS (by kernel_rfl) (by kernel_rfl) hk]
  unfold spanV
  rw [flat_two_at _ _ _ hp]
theorem allocT (w : World) : (Instr.alloc 52 true (.tuple #[])).run Try.prog w = .ok (.pointer (some ⟨w.heap.size, 0, none⟩)) (w.alloc (vobj 52 (two 0 0))) := by kernel_rfl
theorem good_at (f : Cnf) (k : Nat) (hk : k < 16) : ∃ z p, f.L[k]? = some z ∧ f.spans[k]? = some p ∧ f.goods[k]? = some (decide (p.1 ≤ z ∧ z ≤ p.2)) := by
  have h1 : f.L[k]? = some (f.L[k]'(by rw [f.len_L]; exact hk)) := List.getElem?_eq_getElem _
  have h2 : f.spans[k]? = some (f.spans[k]'(by rw [f.len_spans]; exact hk)) := List.getElem?_eq_getElem _
  refine ⟨_, _, h1, h2, ?_⟩
  unfold Cnf.goods
  rw [List.getElem?_zipWith, h1, h2]
theorem L_cell {w : World} {g k : Nat} {f : Cnf} {z : Int} (h : w.heap[g]? = some (vobj 30 f.nums)) (hz : f.L[k]? = some z) : w.cell? ⟨g, k, none⟩ = some (.int .i64 z) :=
  vobj_cell h (by rw [f.nums_L, List.getElem?_map, hz]; rfl)

/-- A block of numbers as a row. -/
theorem row_u64 {w : World} {g : Nat} {ty : TypeId} {zs : List Int} (h : w.heap[g]? = some (.cells ⟨zs.map (Value.int .u64)⟩ ty)) (hm : zs.length ≤ maxLen) (hb : ∀ n ∈ zs, 0 ≤ n ∧ n ≤ 18446744073709551615) : Row .u64 w (some ⟨g, 0, none⟩) zs.length zs :=
  ⟨Nat.le_refl _, hm, .inr ⟨g, 0, rfl, fun j hj => by rw [Nat.zero_add, cell_of h]; simp [hj]⟩, fun n hn => WalkArith.wf_u64 ⟨(hb n hn).1, by have := (hb n hn).2; omega⟩⟩
theorem ret_wrong {f : Cnf} {i : Nat} (h : f.wrong = i + 1) : Ending.returned (.tuple #[.int .i64 ((i : Int) + 1), .int .i64 1]) = .returned (.tuple #[.int .i64 f.wrong, .int .i64 (Cnf.errOf f.wrong)]) := by
  rw [h]; simp [Cnf.errOf]

set_option maxRecDepth 100000 in
set_option maxHeartbeats 1000000 in
theorem first_any (f : Cnf) (w : World) :
    Calls Try.prog 19 #[.agg (aggV f.nums)] w fun r w' => r = .returned (.tuple #[.int .i64 f.wrong, .int .i64 (Cnf.errOf f.wrong)]) ∧ Below w.heap.size w w' := by
  obtain ⟨g, hg⟩ : ∃ g, w.heap.size = g := ⟨_, rfl⟩
  obtain ⟨n, hn⟩ : ∃ n, f.nums = n := ⟨_, rfl⟩
  have hsp := fun v => spans_any f v
  rw [hn] at hsp ⊢
  have HN := Lib.hid hn
  clear hn
  generalize hsv : spanV f = sv at *
  have HSV := Lib.hid hsv
  clear hsv
  have hlen : Hid (n.length = 16) := Lib.hid (by rw [← HN.out]; rfl)
  go_enter Try.func19, Try.ntmps19
  go_wp2_with (first
    | (refine wpList_box_agg rfl 30 _ rfl g hg n rfl ?_; intro w1 h1 l1 s1)
    | (refine wpList_load_agg rfl 30 _ rfl g rfl n h1 _ undF rfl (by rw [hlen.out]; kernel_rfl) ?_)
    | (go_at_call 27; refine (hsp _).mono ?_; rintro r w2 ⟨rfl, b2⟩; have B2 := Lib.hid (l1.trans (b2.mono (by omega : g ≤ w1.heap.size))); have H2 := Lib.hid (kb_below h1 b2); clear b2 h1 l1 s1))
  go_loopg [8] 16 (fun k v8 wr => ∃ i : Nat, i + k = 16 ∧ v8 = .int .i64 i ∧ (∀ j, j < i → f.goods[j]? = some true) ∧ wr.heap[g]? = some (vobj 30 n) ∧ Below g w wr)
  case atStart => exact ⟨0, by omega, rfl, fun j hj => by omega, H2.out, B2.out⟩
  case round =>
    obtain ⟨i, hik, rfl, hall, hN, hB⟩ := hrel
    have HA := Lib.hid hall
    have HB := Lib.hid hB
    have hgs := hB.size
    clear hall hB
    by_cases hi : i < 16
    · obtain ⟨z, ⟨lo, hm⟩, hz, hp, hgd⟩ := good_at f i hi
      have ix := fun v => index_span hi hp v
      rw [HSV.out] at ix
      have HZ := Lib.hid hz
      have HG := Lib.hid hgd
      obtain ⟨e, he⟩ : ∃ e, wr.heap.size = e := ⟨_, rfl⟩
      have hge : g < e := by rw [← he]; exact heap_lt hN
      clear hz hp hgd
      have cs : (decide (z < lo) = true) ∨ (decide (z < lo) = false ∧ decide (hm < z) = true) ∨ (decide (z < lo) = false ∧ decide (hm < z) = false) := by
        by_cases h1 : z < lo <;> by_cases h2 : hm < z <;> simp [h1, h2]
      rcases cs with h1 | ⟨h1, h2⟩ | ⟨h1, h2⟩
      all_goals
        go_wp2_with (first
          | (refine wpList_alloc_agg rfl 52 rfl e he (two 0 0) (allocT _) ?_; intro w3 h3 l3 s3; have hN3 := (l3.block g (by omega)).trans hN)
          | (refine wpList_store_agg rfl 52 _ _ rfl e (two 0 0) (two lo hm) rfl rfl h3 rfl (by kernel_rfl) (ones_two _ _) ?_; intro w4 h4 f4 s4;
             have cA : w4.cell? ⟨e, 0, none⟩ = some (.int .i64 lo) := vobj_cell h4 rfl;
             have cB : w4.cell? ⟨e, 1, none⟩ = some (.int .i64 hm) := vobj_cell h4 rfl;
             have hN4 := (f4.block g (by omega) (by omega)).trans hN3;
             have cZ : w4.cell? ⟨g, i, none⟩ = some (.int .i64 z) := L_cell (by rw [HN.out]; exact hN4) HZ.out;
             have N4 := Lib.hid hN4;
             have B4 := Lib.hid (HB.out.trans ((l3.mono (by omega : g ≤ e)).trans (f4.below (by omega : g ≤ w3.heap.size) (fun j hj e => by omega))));
             clear h4 hN4 hN3 h3 f4 l3 s3 s4))
        go_quiet (fail)
        go_wp2
      · go_ret2
        have hw : f.wrong = i + 1 := Cnf.firstF_at HA.out (by rw [HG.out]; simp at h1 ⊢; omega)
        exact ⟨ret_wrong hw, by subst hg; exact below_drewN B4.out _⟩
      · go_ret2
        have hw : f.wrong = i + 1 := Cnf.firstF_at HA.out (by rw [HG.out]; simp at h1 h2 ⊢; omega)
        exact ⟨ret_wrong hw, by subst hg; exact below_drewN B4.out _⟩
      · go_roundg (16 - (i + 1))
        case measure => omega
        case rel =>
          refine ⟨i + 1, by omega, by simp, fun j hj => ?_, N4.out, below_drewN B4.out _⟩
          by_cases hji : j < i
          · exact HA.out j hji
          · obtain rfl : j = i := by omega
            rw [HG.out]; simp at h1 h2 ⊢; omega
    · go_wp2
      go_ret2
      have hw : f.wrong = 0 := Cnf.firstF_all (fun j hj => HA.out j (by rw [f.len_goods] at hj; omega))
      exact ⟨by rw [hw]; rfl, by subst hg; exact HB.out⟩

set_option maxRecDepth 100000 in
set_option maxHeartbeats 1000000 in
theorem check_any (c : Cnf) (w : World) (hc : c.Fits) (n : Nat) (hn : c.bad = n) :
    Calls Try.prog 10 #[.agg (aggV c.vals)] w fun r w' => r = .returned (.tuple #[.int .i64 n, .int .i64 (Cnf.errOf n)]) ∧ Below w.heap.size w w' := by
  obtain ⟨g, hg⟩ : ∃ g, w.heap.size = g := ⟨_, rfl⟩
  obtain ⟨fs, hu⟩ := undC
  have hsz := sizeC c
  have hpu := fun v => put_any c v
  have hfi := fun v => first_any c.put v
  rw [Cnf.wrong_put hc, hn] at hfi
  have HP := Lib.hid hpu
  have HF := Lib.hid hfi
  have HU := Lib.hid hu
  have HZ := Lib.hid hsz
  clear hpu hfi hu hsz hn
  generalize c.vals = n0 at *
  generalize c.put.nums = n1 at *
  generalize Cnf.errOf n = e at *
  go_enter Try.func10, Try.ntmps10
  go_wp2_with (first
    | (refine wpList_box_agg rfl 24 _ rfl g hg n0 rfl ?_; intro w1 h1 l1 s1)
    | (refine wpList_load_agg rfl 24 _ rfl g rfl n0 h1 _ HU.out rfl HZ.out ?_)
    | (go_at_call 12; refine (HP.out _).mono ?_; rintro r w2 ⟨rfl, b2⟩; have B2 := Lib.hid (l1.trans (b2.mono (by omega : g ≤ w1.heap.size))); clear b2 h1 l1)
    | (go_at_call 19; refine (HF.out _).mono ?_; rintro r w3 ⟨rfl, b3⟩; have B3 := Lib.hid (B2.out.trans (b3.mono (by have := B2.out.size; omega))); clear b3))
  go_ret2
  exact ⟨rfl, by subst hg; exact B3.out⟩

set_option maxRecDepth 100000 in
set_option maxHeartbeats 1000000 in
theorem bound_any (c : Cnf) (w : World) (hc : c.Fits) :
    Calls Try.prog 14 #[.agg (aggV c.vals)] w fun r w' => r = .returned (.int .u64 c.bound) ∧ Below w.heap.size w w' := by
  obtain ⟨g, hg⟩ : ∃ g, w.heap.size = g := ⟨_, rfl⟩
  have ⟨t0, t1⟩ := hc.timeout
  have ⟨f0, f1⟩ := hc.fbTimeout
  have ⟨q0, q1⟩ := hc.window
  have HC : Hid (∀ (v : World) (ty : TypeId), v.heap[g]? = some (vobj ty c.vals) → v.cell? ⟨g, 5, none⟩ = some (.int .i64 c.chain) ∧ v.cell? ⟨g, 6, none⟩ = some (.int .u64 c.timeout) ∧ v.cell? ⟨g, 7, none⟩ = some (.int .u64 c.fbTimeout) ∧ v.cell? ⟨g, 13, none⟩ = some (.int .u64 c.window)) :=
    Lib.hid (fun v ty hv => ⟨vobj_cell hv rfl, vobj_cell hv rfl, vobj_cell hv rfl, vobj_cell hv rfl⟩)
  unfold Cnf.bound
  generalize c.vals = n0 at *
  generalize c.timeout = t at *
  generalize c.fbTimeout = f at *
  generalize c.window = q at *
  generalize c.chain = k at *
  clear hc
  have hkb := Cnf.wrapU_bd k
  go_enter Try.func14, Try.ntmps14
  go_wp2_with (first
    | (refine wpList_box_agg rfl 24 _ rfl g hg n0 rfl ?_; intro w1 h1 l1 s1; obtain ⟨c5, c6, c7, c13⟩ := HC.out _ _ h1)
    | (go_at_call 23; refine (mul_any (IntKind.u64.wrap k) f _ hkb.1 f0 hkb.2 f1).mono ?_; rintro r w2 ⟨rfl, rfl⟩))
  refine (sum_any (some ⟨g + 1, 0, none⟩) 4 4 [t, q, mulS (IntKind.u64.wrap k) f, 1] _ ?hrow).mono ?_
  case hrow =>
    have hmb := mulS_bd hkb.1 f0
    refine row_u64 (g := g + 1) (ty := 22) (zs := [t, q, mulS (IntKind.u64.wrap k) f, 1]) (by rw [← s1]; exact heap_alloc_at w1 _) (by simp [maxLen]) ?_
    intro n hn
    simp only [List.mem_cons, List.not_mem_nil, or_false] at hn
    rcases hn with rfl | rfl | rfl | rfl <;> omega
  rintro r w3 ⟨rfl, rfl⟩
  rw [show List.take 4 [t, q, mulS (IntKind.u64.wrap k) f, 1] = [t, q, mulS (IntKind.u64.wrap k) f, 1] from rfl]
  go_wp2
  go_ret
  exact ⟨rfl, by subst hg; exact l1.trans ((below_alloc w1 _).mono (by omega))⟩

set_option maxRecDepth 100000 in
set_option maxHeartbeats 1000000 in
theorem take_any (f : Cnf) (w : World) (hf : f.Fit64) (n : Nat) (hn : f.wrong = n) :
    Calls Try.prog 16 #[.agg (aggV f.nums)] w fun r w' => r = .returned (.tuple #[.agg (aggV (if n = 0 then f.take else Cnf.zero).vals), .int .i64 n, .int .i64 (Cnf.errOf n)]) ∧ Below w.heap.size w w' := by
  obtain ⟨g, hg⟩ : ∃ g, w.heap.size = g := ⟨_, rfl⟩
  have hsz := sizeF f
  have hfi := fun v => first_any f v
  rw [hn] at hfi
  have HF := Lib.hid hfi
  have HZ := Lib.hid hsz
  have HC : Hid (∀ (v : World), v.heap[g]? = some (vobj 30 f.nums) → _) := Lib.hid (fun v hv => Cnf.cells_nums hv)
  have hn16 : n ≤ 16 := by rw [← hn]; exact f.wrong_le
  clear hfi hsz hn
  generalize hn0 : f.nums = n0 at *
  clear hn0
  by_cases h0 : n = 0
  · subst h0
    rw [if_pos rfl]
    rw [show Cnf.errOf 0 = 0 from rfl] at HF ⊢
    go_enter Try.func16, Try.ntmps16
    go_wp2_with (first
      | (refine wpList_box_agg rfl 30 _ rfl g hg n0 rfl ?_; intro w1 h1 l1 s1)
      | (refine wpList_alloc_agg rfl 24 rfl (g + 1) s1 Cnf.zero.vals (allocC _) ?_; intro w2 h2 l2 s2; have h12 := (l2.block g (by omega)).trans h1; have B2 := Lib.hid (l1.trans (l2.mono (by omega : g ≤ g + 1))); clear h1 l1 l2 s1)
      | (refine wpList_load_agg rfl 30 _ rfl g rfl n0 h12 _ undF rfl HZ.out ?_)
      | (go_at_call 19; refine (HF.out _).mono ?_; rintro r w3 ⟨rfl, b3⟩; have B3 := Lib.hid (B2.out.trans (b3.mono (by omega))); have H3 := Lib.hid (kb_below h2 b3); have s3 := b3.size; obtain ⟨c0, c1, c2, c3, c4, c5, c6, c7, c8, c9, c10, c11, c12, c13, c14, c15⟩ := HC.out _ (kb_below h12 b3); clear b3 h12 h2)
      | (refine wpList_build_agg rfl 24 _ rfl f.take.vals ?hb ?_; (case hb => kernel_rfl))
      | (refine wpList_store_agg rfl 24 _ _ rfl (g + 1) Cnf.zero.vals f.take.vals rfl rfl H3.out rfl (sizeC _) (Cnf.ones_vals _) ?_; intro w4 h4 f4 s4))
    refine bodyPost_ret (v := .tuple #[.agg (aggV f.take.vals), .int .i64 0, .int .i64 0]) (results_agg2 Try.results16 rfl (loadC h4) rfl rfl) rfl ⟨rfl, ?_⟩
    subst hg
    exact B3.out.trans (f4.below (by omega) (fun j hj e => by omega))
  · rw [if_neg h0]
    have he : Cnf.errOf n = 1 := by unfold Cnf.errOf; rw [if_neg h0]
    rw [he] at HF ⊢
    go_enter Try.func16, Try.ntmps16
    go_wp2_with (first
      | (refine wpList_box_agg rfl 30 _ rfl g hg n0 rfl ?_; intro w1 h1 l1 s1)
      | (refine wpList_alloc_agg rfl 24 rfl (g + 1) s1 Cnf.zero.vals (allocC _) ?_; intro w2 h2 l2 s2; have h12 := (l2.block g (by omega)).trans h1; have B2 := Lib.hid (l1.trans (l2.mono (by omega : g ≤ g + 1))); clear h1 l1 l2 s1)
      | (refine wpList_load_agg rfl 30 _ rfl g rfl n0 h12 _ undF rfl HZ.out ?_)
      | (go_at_call 19; refine (HF.out _).mono ?_; rintro r w3 ⟨rfl, b3⟩; have B3 := Lib.hid (B2.out.trans (b3.mono (by omega))); have H3 := Lib.hid (kb_below h2 b3); have s3 := b3.size; clear b3 h12 h2)
      | (refine wpList_build_agg rfl 24 _ rfl Cnf.zero.vals ?hb ?_; (case hb => kernel_rfl))
      | (refine wpList_store_agg rfl 24 _ _ rfl (g + 1) Cnf.zero.vals Cnf.zero.vals rfl rfl H3.out rfl (sizeC _) (Cnf.ones_vals _) ?_; intro w4 h4 f4 s4))
    refine bodyPost_ret (v := .tuple #[.agg (aggV Cnf.zero.vals), .int .i64 n, .int .i64 1]) (results_agg2 Try.results16 rfl (loadC h4) rfl rfl) rfl ⟨rfl, ?_⟩
    subst hg
    exact B3.out.trans (f4.below (by omega) (fun j hj e => by omega))
end Go.Proofs.Ytjbbgfjoplggpaa
