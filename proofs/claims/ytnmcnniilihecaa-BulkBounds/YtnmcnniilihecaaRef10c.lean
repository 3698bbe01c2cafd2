/- Contracts of porpoiseref10: Pick, Admit. (Written by wip/tools/gen_ref10c.py.) -/
import Derived.Test.YtnmcnniilihecaaRef10b
namespace Go.Proofs.Ytnmcnniilihecaa
set_option linter.unusedVariables false
open Go.ChangeShapes Go.WideShapes Go.ChangeAt Go.RowKit

set_option maxRecDepth 100000 in
set_option maxHeartbeats 1000000 in
theorem rpick_no (x : RK) (w : World) (h : ¬ (x.n : Int) < x.most ∨ ((x.n : Int) < x.most ∧ x.m = 0)) :
    Calls Try.prog 27 #[.agg (aggV x.vals)] w fun r w' => r = .returned (.tuple #[.agg (aggV x.vals), .int .i64 0, .bool false]) ∧ Below w.heap.size w w' := by
  obtain ⟨fs, hu⟩ := undR
  have HU := Lib.hid hu
  obtain ⟨g, hg⟩ : ∃ g, w.heap.size = g := ⟨_, rfl⟩
  clear hu
  have h' : x.most ≤ (x.n : Int) ∨ (¬ x.most ≤ (x.n : Int) ∧ ((x.m : Int) == 0) = true) := by
    rcases h with h | ⟨h, h0⟩
    · exact .inl (by omega)
    · exact .inr ⟨by omega, by simp [h0]⟩
  clear h
  rcases h' with h | ⟨h, h0⟩
  all_goals
    go_enter Try.func27, Try.ntmps27
    go_wp2_with (first
      | (refine wpList_box_agg rfl 31 _ rfl g hg x.vals rfl ?_; intro w1 h1 l1 t1)
      | (refine wpList_alloc_agg rfl 31 rfl (g + 1) t1 RK.zero.vals (allocR _) ?_; intro w2 k2 l2 t2;
         have h2 : w2.heap[g]? = some (vobj 31 x.vals) := (l2.block g (by omega)).trans h1;
         obtain ⟨c0, c1, c2, c3⟩ := RK.cells_vals h2;
         clear h1)
      | (refine wpList_load_agg rfl 31 _ rfl g rfl x.vals ?hy _ HU.out rfl (sizeR _) ?_; (case hy => exact h2))
      | (refine wpList_store_agg rfl 31 _ _ rfl (g + 1) RK.zero.vals x.vals rfl rfl ?hz rfl (sizeR _) (RK.ones_vals _) ?_; (case hz => exact k2); intro w6 h6 f6 t6))
    refine bodyPost_ret (v := .tuple #[.agg (aggV x.vals), .int .i64 0, .bool false]) (results_agg2 Try.results27 rfl (loadR h6) rfl rfl) rfl ⟨rfl, ?_⟩
    subst hg
    exact (l1.trans (l2.mono (by omega))).trans (f6.below (by omega) (fun j hj e => by omega))

set_option maxRecDepth 100000 in
set_option maxHeartbeats 1000000 in
theorem rpick_one (x : RK) (base : Nat) (S : BU) (y : Int) (l : List Int) (w : World) (h : x.Is w base S) (ok : S.Ok) (hb : base ≤ w.heap.size) (hl : S.run.length < S.most) (hw : S.wait = y :: l) :
    Calls Try.prog 27 #[.agg (aggV x.vals)] w fun r w' => ∃ X : RK, r = .returned (.tuple #[.agg (aggV X.vals), .int .i64 y, .bool true]) ∧ X.Is w' base (S.turn y l) ∧ Below w.heap.size w w' := by
  obtain ⟨fs, hu⟩ := undR
  have HU := Lib.hid hu
  obtain ⟨g, hg⟩ : ∃ g, w.heap.size = g := ⟨_, rfl⟩
  obtain ⟨most, que, A, n, c, B, m, d⟩ := x
  have hA : S.run.length = n := h.rowA.2
  have hB : S.wait.length = m := h.rowB.2
  have hmost : most = S.most := h.most
  have hdd : m ≤ d ∧ d ≤ maxLen := h.wait.row.2.2
  have hrB : Row .i64 w B m (y :: l) := hw ▸ h.rowB.1
  rw [hw] at hB
  have hlm : l.length = m - 1 := by rw [← hB]; simp
  have hm1 : 1 ≤ m := by rw [← hB]; simp
  obtain ⟨m, rfl⟩ : ∃ m', m = m' + 1 := ⟨m - 1, by omega⟩
  obtain ⟨d, rfl⟩ : ∃ d', d = d' + 1 := ⟨d - 1, by omega⟩
  obtain ⟨b, off, rfl, q0⟩ := hrB.at_ (j := 0) (by omega)
  have q0 : w.cell? ⟨b, off, none⟩ = some (.int .i64 y) := q0
  have hlm : l.length = m := by simpa using hlm
  have htl := hrB.tail hlm (by omega : m ≤ d)
  obtain ⟨A', hA'⟩ : ∃ A', (if d = 0 then (some ⟨b, off, none⟩ : Option Addr) else some ⟨b, off + 1, none⟩) = A' := ⟨_, rfl⟩
  rw [hA'] at htl
  have hcm := hdd.2
  unfold maxLen at hcm
  have hr1 := ok.lr
  have hm8 := ok.m8
  have hlw := ok.lw
  have hq8 := ok.q8
  have hnm : ¬ most ≤ (n : Int) := by rw [hmost, ← hA]; omega
  have hnz : (((m + 1 : Nat) : Int) == 0) = false := by simp; omega
  have hlt : (0 : Int) < (m : Int) + 1 := by omega
  have hone : (1 : Int) ≤ (m : Int) + 1 := by omega
  have hn1000 : n ≤ 1000 := by omega
  have hm1000 : m ≤ 1000 := by rw [hw] at hlw; simp at hlw; omega
  have hq : que = S.que := h.que
  have H := Lib.hid h
  have HT := Lib.hid htl
  have HL := Lib.hid hlm
  have HAn := Lib.hid hA
  have HOK := Lib.hid ok
  have HB := Lib.hid hb
  have HMO := Lib.hid hmost
  have HQ := Lib.hid hq
  have HY := Lib.hid (ok.ww y (by rw [hw]; simp))
  have HN1 := Lib.hid hn1000
  have HM1 := Lib.hid hm1000
  have QY := Lib.hid q0
  clear hu h htl hlm hA ok hb hmost hq hl hw hrB hB hdd hm1 hr1 hm8 hlw hq8 hn1000 hm1000 q0
  go_enter Try.func27, Try.ntmps27
  go_wp2_with (first
    | (refine wpList_box_agg rfl 31 _ rfl g hg (RK.vals ⟨most, que, A, n, c, some ⟨b, off, none⟩, m + 1, d + 1⟩) rfl ?_; intro w1 h1 l1 t1)
    | (refine wpList_alloc_agg rfl 31 rfl (g + 1) t1 RK.zero.vals (allocR _) ?_; intro w2 k2 l2 t2;
       have h2 : w2.heap[g]? = some (vobj 31 (RK.vals ⟨most, que, A, n, c, some ⟨b, off, none⟩, m + 1, d + 1⟩)) := (l2.block g (by omega)).trans h1;
       obtain ⟨c0, c1, c2, c3⟩ := RK.cells_vals h2;
       have B2 : Hid (Below w.heap.size w w2) := Lib.hid (by rw [hg]; exact l1.trans (l2.mono (by omega)));
       have e3 : (w2.alloc (.cells #[] 3)).cell? ⟨g, 3, none⟩ = some (.slice (some ⟨b, off, none⟩) (m + 1) (d + 1)) := vobj_cell (kb_alloc h2 _) rfl;
       have q0 := cell_later B2.out QY.out;
       have T2' := Lib.hid (HT.out.later (B2.out.alloc B2.out.size (.cells #[] 3)));
       have H2 := Lib.hid h2; have K2 := Lib.hid k2; have S2 := Lib.hid t2;
       clear h1 l1 l2 h2 k2 t1 t2)
    | (at_builtin;
       refine wpList_app (base := w2.heap.size) rfl (.tmp 23) (.tmp 26) rfl rfl rfl (ints_empty w2) T2'.out HL.out (by have := HM1.out; simp; omega) (by simp) ?_;
       intro v3 w3 own3 gr3 _;
       have b3 := grown_below gr3 (by simp) (ints_empty w2).low;
       obtain ⟨B', m', d', hv, _, _, _, _⟩ := own_row' own3;
       subst hv;
       have OWN3 : Hid (Ints w3 w2.heap.size (.slice B' m' d') l) := Lib.hid own3;
       have H3 : Hid (w3.heap[g]? = some (vobj 31 (RK.vals ⟨most, que, A, n, c, some ⟨b, off, none⟩, m + 1, d + 1⟩))) := Lib.hid ((b3.block g (by have := S2.out; omega)).trans (kb_alloc H2.out _));
       have K3 : Hid (w3.heap[g + 1]? = some (vobj 31 RK.zero.vals)) := Lib.hid ((b3.block (g + 1) (by have := S2.out; omega)).trans (kb_alloc K2.out _));
       have B3 : Hid (Below w.heap.size w w3) := Lib.hid ((B2.out.alloc B2.out.size _).trans (b3.mono B2.out.size));
       clear own3 gr3 b3 c0 c1 c2 c3 e3 H2 K2 B2 T2')
    | (refine wpList_store_one rfl 29 _ _ rfl g 3 31 (RK.vals ⟨most, que, A, n, c, some ⟨b, off, none⟩, m + 1, d + 1⟩) (.slice B' m' d') rfl rfl ?hb (by rw [RK.len_vals]; decide) (by kernel_rfl) rfl rfl ?_; (case hb => exact H3.out);
       intro w5 h5 f5 t5;
       have h5' : w5.heap[g]? = some (vobj 31 (RK.vals ⟨most, que, A, n, c, B', m', d'⟩)) := h5;
       have k5 : w5.heap[g + 1]? = some (vobj 31 RK.zero.vals) := (f5.block (g + 1) (heap_lt K3.out) (by show ¬ (g + 1 = g); omega)).trans K3.out;
       have O5 := Lib.hid (OWN3.out.frm f5 (fun j hj cs hc => by rw [show j = g from hj, H3.out] at hc; cases hc));
       have B5 : Hid (Below w.heap.size w w5) := Lib.hid (B3.out.trans (f5.below B3.out.size (fun j hj e => by have e' : j = g := e; omega)));
       have H5 := Lib.hid h5'; have K5 := Lib.hid k5;
       clear h5 f5 h5' k5 H3 K3 B3 OWN3)
    | (refine wpList_load_agg rfl 31 _ rfl g rfl (RK.vals ⟨most, que, A, n, c, B', m', d'⟩) ?hy _ HU.out rfl (sizeR _) ?_; (case hy => exact H5.out))
    | (go_at_call 44;
       refine (rrun_any ⟨most, que, A, n, c, B', m', d'⟩ y S.run w5 (H.out.rowA.1.later B5.out) HAn.out HN1.out HY.out).mono ?_;
       rintro r w6 ⟨A1, n1, c1, rfl, own6, b6⟩;
       have O6 := Lib.hid own6; have W6 := Lib.hid (O5.out.below b6); have K6 := Lib.hid (kb_below K5.out b6); have B6 := Lib.hid (B5.out.trans (b6.mono B5.out.size));
       clear own6 b6 K5)
    | (refine wpList_store_agg rfl 31 _ _ rfl (g + 1) RK.zero.vals (RK.vals ⟨most, que, A1, n1, c1, B', m', d'⟩) rfl rfl ?hz rfl (sizeR _) (RK.ones_vals _) ?_; (case hz => exact K6.out); intro w7 h7 f7 t7))
  refine bodyPost_ret (v := .tuple #[.agg (aggV (RK.vals ⟨most, que, A1, n1, c1, B', m', d'⟩)), .int .i64 y, .bool true]) (results_agg2 Try.results27 rfl (loadR h7) rfl rfl) rfl ⟨⟨most, que, A1, n1, c1, B', m', d'⟩, rfl, ⟨HMO.out, HQ.out, ?_, ?_⟩, ?_⟩
  · have o := O6.out.frm f7 (fun j hj cs hc => by rw [show j = g + 1 from hj, K6.out] at hc; cases hc)
    exact o.mono (by have := HB.out; have := B5.out.size; omega)
  · have o := W6.out.frm f7 (fun j hj cs hc => by rw [show j = g + 1 from hj, K6.out] at hc; cases hc)
    exact o.mono (by have := HB.out; have := S2.out; omega)
  · exact B6.out.trans (f7.below (by have := B6.out.size; omega) (fun j hj e => by have e' : j = g + 1 := e; omega))

set_option maxRecDepth 100000 in
set_option maxHeartbeats 1000000 in
theorem radmit_runs (x : RK) (base : Nat) (S : BU) (z : Int) (w : World) (h : x.Is w base S) (ok : S.Ok) (hb : base ≤ w.heap.size) (hz : wf64 z) (ha : z ∈ S.run) :
    Calls Try.prog 26 #[.agg (aggV x.vals), .int .i64 z] w fun r w' => r = .returned (.tuple #[.agg (aggV x.vals), .int .i64 3, .slice none 0 0]) ∧ Below w.heap.size w w' := by
  obtain ⟨fs, hu⟩ := undR
  have HU := Lib.hid hu
  obtain ⟨g, hg⟩ : ∃ g, w.heap.size = g := ⟨_, rfl⟩
  have hA : S.run.length = x.n := h.rowA.2
  have hB : S.wait.length = x.m := h.rowB.2
  have hmost : x.most = S.most := h.most
  have hque : x.que = S.que := h.que
  have hr1 := ok.lr
  have hm8 := ok.m8
  have hlw := ok.lw
  have hq8 := ok.q8
  have hn1000 : x.n ≤ 1000 := by omega
  have hm1000 : x.m ≤ 1000 := by omega
  have H := Lib.hid h
  have HOK := Lib.hid ok
  have HB := Lib.hid hb
  have HZ := Lib.hid hz
  have HN1 := Lib.hid hn1000
  have HM1 := Lib.hid hm1000
  have HAn := Lib.hid hA
  have HBm := Lib.hid hB
  have HA := Lib.hid ha
  clear ha
  clear hu h hA hB ok hb hz hmost hque hr1 hm8 hlw hq8 hn1000 hm1000
  go_enter Try.func26, Try.ntmps26
  go_wp2_with (first
    | (refine wpList_box_agg rfl 31 _ rfl g hg x.vals rfl ?_; intro w1 h1 l1 t1)
    | (refine wpList_alloc_agg rfl 31 rfl (g + 1) t1 RK.zero.vals (allocR _) ?_; intro w2 k2 l2 t2;
       have h2 : w2.heap[g]? = some (vobj 31 x.vals) := (l2.block g (by omega)).trans h1;
       obtain ⟨c0, c1, c2, c3⟩ := RK.cells_vals h2;
       have B2 : Hid (Below w.heap.size w w2) := Lib.hid (by rw [hg]; exact l1.trans (l2.mono (by omega)));
       have I2 := Lib.hid (H.out.below B2.out);
       have H2 := Lib.hid h2; have K2 := Lib.hid k2; have S2 := Lib.hid t2;
       clear h1 l1 l2 h2 k2 t1 t2))
  have hh := has_any x.A x.n x.c z S.run w2 I2.out.rowA.1 HAn.out
  rw [decide_eq_true HA.out] at hh
  refine hh.mono ?_
  clear hh
  rintro r w3 ⟨rfl, rfl⟩
  go_wp2_with (first
    | (refine wpList_load_agg rfl 31 _ rfl g rfl x.vals ?hy _ HU.out rfl (sizeR _) ?_; (case hy => exact H2.out))
    | (refine wpList_store_agg rfl 31 _ _ rfl (g + 1) RK.zero.vals x.vals rfl rfl ?hz rfl (sizeR _) (RK.ones_vals _) ?_; (case hz => exact K2.out); intro w7 h7 f7 t7))
  refine bodyPost_ret (v := .tuple #[.agg (aggV x.vals), .int .i64 3, .slice none 0 0]) (results_agg2 Try.results26 rfl (loadR h7) rfl rfl) rfl ⟨rfl, ?_⟩
  have hfin : Below w.heap.size w w7 := B2.out.trans (f7.below B2.out.size (fun j hj e => by have e' : j = g + 1 := e; omega))
  first | exact hfin | (rw [← hg]; exact hfin)

set_option maxRecDepth 100000 in
set_option maxHeartbeats 1000000 in
theorem radmit_waits (x : RK) (base : Nat) (S : BU) (z : Int) (w : World) (h : x.Is w base S) (ok : S.Ok) (hb : base ≤ w.heap.size) (hz : wf64 z) (ha : z ∉ S.run) (hw : z ∈ S.wait) :
    Calls Try.prog 26 #[.agg (aggV x.vals), .int .i64 z] w fun r w' => r = .returned (.tuple #[.agg (aggV x.vals), .int .i64 3, .slice none 0 0]) ∧ Below w.heap.size w w' := by
  obtain ⟨fs, hu⟩ := undR
  have HU := Lib.hid hu
  obtain ⟨g, hg⟩ : ∃ g, w.heap.size = g := ⟨_, rfl⟩
  have hA : S.run.length = x.n := h.rowA.2
  have hB : S.wait.length = x.m := h.rowB.2
  have hmost : x.most = S.most := h.most
  have hque : x.que = S.que := h.que
  have hr1 := ok.lr
  have hm8 := ok.m8
  have hlw := ok.lw
  have hq8 := ok.q8
  have hn1000 : x.n ≤ 1000 := by omega
  have hm1000 : x.m ≤ 1000 := by omega
  have H := Lib.hid h
  have HOK := Lib.hid ok
  have HB := Lib.hid hb
  have HZ := Lib.hid hz
  have HN1 := Lib.hid hn1000
  have HM1 := Lib.hid hm1000
  have HAn := Lib.hid hA
  have HBm := Lib.hid hB
  have HA := Lib.hid ha
  have HW := Lib.hid hw
  clear ha hw
  clear hu h hA hB ok hb hz hmost hque hr1 hm8 hlw hq8 hn1000 hm1000
  go_enter Try.func26, Try.ntmps26
  go_wp2_with (first
    | (refine wpList_box_agg rfl 31 _ rfl g hg x.vals rfl ?_; intro w1 h1 l1 t1)
    | (refine wpList_alloc_agg rfl 31 rfl (g + 1) t1 RK.zero.vals (allocR _) ?_; intro w2 k2 l2 t2;
       have h2 : w2.heap[g]? = some (vobj 31 x.vals) := (l2.block g (by omega)).trans h1;
       obtain ⟨c0, c1, c2, c3⟩ := RK.cells_vals h2;
       have B2 : Hid (Below w.heap.size w w2) := Lib.hid (by rw [hg]; exact l1.trans (l2.mono (by omega)));
       have I2 := Lib.hid (H.out.below B2.out);
       have H2 := Lib.hid h2; have K2 := Lib.hid k2; have S2 := Lib.hid t2;
       clear h1 l1 l2 h2 k2 t1 t2))
  have hh := has_any x.A x.n x.c z S.run w2 I2.out.rowA.1 HAn.out
  rw [decide_eq_false HA.out] at hh
  refine hh.mono ?_
  clear hh
  rintro r w3 ⟨rfl, rfl⟩
  go_wp2_with fail
  have hh := has_any x.B x.m x.d z S.wait _ I2.out.rowB.1 HBm.out
  rw [decide_eq_true HW.out] at hh
  refine hh.mono ?_
  clear hh
  rintro r w4 ⟨rfl, rfl⟩
  go_wp2_with (first
    | (refine wpList_load_agg rfl 31 _ rfl g rfl x.vals ?hy _ HU.out rfl (sizeR _) ?_; (case hy => exact H2.out))
    | (refine wpList_store_agg rfl 31 _ _ rfl (g + 1) RK.zero.vals x.vals rfl rfl ?hz rfl (sizeR _) (RK.ones_vals _) ?_; (case hz => exact K2.out); intro w7 h7 f7 t7))
  refine bodyPost_ret (v := .tuple #[.agg (aggV x.vals), .int .i64 3, .slice none 0 0]) (results_agg2 Try.results26 rfl (loadR h7) rfl rfl) rfl ⟨rfl, ?_⟩
  have hfin : Below w.heap.size w w7 := B2.out.trans (f7.below B2.out.size (fun j hj e => by have e' : j = g + 1 := e; omega))
  first | exact hfin | (rw [← hg]; exact hfin)

set_option maxRecDepth 100000 in
set_option maxHeartbeats 1000000 in
theorem radmit_full (x : RK) (base : Nat) (S : BU) (z : Int) (w : World) (h : x.Is w base S) (ok : S.Ok) (hb : base ≤ w.heap.size) (hz : wf64 z) (ha : z ∉ S.run) (hw : z ∉ S.wait) (hl : ¬ S.run.length < S.most) (hq : ¬ S.wait.length < S.que) :
    Calls Try.prog 26 #[.agg (aggV x.vals), .int .i64 z] w fun r w' => r = .returned (.tuple #[.agg (aggV x.vals), .int .i64 3, .slice none 0 0]) ∧ Below w.heap.size w w' := by
  obtain ⟨fs, hu⟩ := undR
  have HU := Lib.hid hu
  obtain ⟨g, hg⟩ : ∃ g, w.heap.size = g := ⟨_, rfl⟩
  have hA : S.run.length = x.n := h.rowA.2
  have hB : S.wait.length = x.m := h.rowB.2
  have hmost : x.most = S.most := h.most
  have hque : x.que = S.que := h.que
  have hr1 := ok.lr
  have hm8 := ok.m8
  have hlw := ok.lw
  have hq8 := ok.q8
  have hn1000 : x.n ≤ 1000 := by omega
  have hm1000 : x.m ≤ 1000 := by omega
  have H := Lib.hid h
  have HOK := Lib.hid ok
  have HB := Lib.hid hb
  have HZ := Lib.hid hz
  have HN1 := Lib.hid hn1000
  have HM1 := Lib.hid hm1000
  have HAn := Lib.hid hA
  have HBm := Lib.hid hB
  have HA := Lib.hid ha
  have HW := Lib.hid hw
  have g1 : ¬ (x.n : Int) < x.most := by rw [hmost, ← hA]; omega
  have g2 : ¬ (x.m : Int) < x.que := by rw [hque, ← hB]; omega
  clear ha hw hl hq
  clear hu h hA hB ok hb hz hmost hque hr1 hm8 hlw hq8 hn1000 hm1000
  go_enter Try.func26, Try.ntmps26
  go_wp2_with (first
    | (refine wpList_box_agg rfl 31 _ rfl g hg x.vals rfl ?_; intro w1 h1 l1 t1)
    | (refine wpList_alloc_agg rfl 31 rfl (g + 1) t1 RK.zero.vals (allocR _) ?_; intro w2 k2 l2 t2;
       have h2 : w2.heap[g]? = some (vobj 31 x.vals) := (l2.block g (by omega)).trans h1;
       obtain ⟨c0, c1, c2, c3⟩ := RK.cells_vals h2;
       have B2 : Hid (Below w.heap.size w w2) := Lib.hid (by rw [hg]; exact l1.trans (l2.mono (by omega)));
       have I2 := Lib.hid (H.out.below B2.out);
       have H2 := Lib.hid h2; have K2 := Lib.hid k2; have S2 := Lib.hid t2;
       clear h1 l1 l2 h2 k2 t1 t2))
  have hh := has_any x.A x.n x.c z S.run w2 I2.out.rowA.1 HAn.out
  rw [decide_eq_false HA.out] at hh
  refine hh.mono ?_
  clear hh
  rintro r w3 ⟨rfl, rfl⟩
  go_wp2_with fail
  have hh := has_any x.B x.m x.d z S.wait _ I2.out.rowB.1 HBm.out
  rw [decide_eq_false HW.out] at hh
  refine hh.mono ?_
  clear hh
  rintro r w4 ⟨rfl, rfl⟩
  go_wp2_with (first
    | (refine wpList_load_agg rfl 31 _ rfl g rfl x.vals ?hy _ HU.out rfl (sizeR _) ?_; (case hy => exact H2.out))
    | (refine wpList_store_agg rfl 31 _ _ rfl (g + 1) RK.zero.vals x.vals rfl rfl ?hz rfl (sizeR _) (RK.ones_vals _) ?_; (case hz => exact K2.out); intro w7 h7 f7 t7))
  refine bodyPost_ret (v := .tuple #[.agg (aggV x.vals), .int .i64 3, .slice none 0 0]) (results_agg2 Try.results26 rfl (loadR h7) rfl rfl) rfl ⟨rfl, ?_⟩
  have hfin : Below w.heap.size w w7 := B2.out.trans (f7.below B2.out.size (fun j hj e => by have e' : j = g + 1 := e; omega))
  first | exact hfin | (rw [← hg]; exact hfin)

set_option maxRecDepth 100000 in
set_option maxHeartbeats 1000000 in
theorem radmit_run (x : RK) (base : Nat) (S : BU) (z : Int) (w : World) (h : x.Is w base S) (ok : S.Ok) (hb : base ≤ w.heap.size) (hz : wf64 z) (ha : z ∉ S.run) (hw : z ∉ S.wait) (hl : S.run.length < S.most) (he : S.wait = []) :
    Calls Try.prog 26 #[.agg (aggV x.vals), .int .i64 z] w fun r w' => ∃ X : RK, r = .returned (.tuple #[.agg (aggV X.vals), .int .i64 1, .slice none 0 0]) ∧ X.Is w' base (S.runs z) ∧ Below w.heap.size w w' := by
  obtain ⟨fs, hu⟩ := undR
  have HU := Lib.hid hu
  obtain ⟨g, hg⟩ : ∃ g, w.heap.size = g := ⟨_, rfl⟩
  have hA : S.run.length = x.n := h.rowA.2
  have hB : S.wait.length = x.m := h.rowB.2
  have hmost : x.most = S.most := h.most
  have hque : x.que = S.que := h.que
  have hr1 := ok.lr
  have hm8 := ok.m8
  have hlw := ok.lw
  have hq8 := ok.q8
  have hn1000 : x.n ≤ 1000 := by omega
  have hm1000 : x.m ≤ 1000 := by omega
  have H := Lib.hid h
  have HOK := Lib.hid ok
  have HB := Lib.hid hb
  have HZ := Lib.hid hz
  have HN1 := Lib.hid hn1000
  have HM1 := Lib.hid hm1000
  have HAn := Lib.hid hA
  have HBm := Lib.hid hB
  have HA := Lib.hid ha
  have HW := Lib.hid hw
  have g1 : (x.n : Int) < x.most := by rw [hmost, ← hA]; omega
  have g2 : ((x.m : Int) == 0) = true := by rw [← hB, he]; rfl
  clear ha hw hl he
  clear hu h hA hB ok hb hz hmost hque hr1 hm8 hlw hq8 hn1000 hm1000
  go_enter Try.func26, Try.ntmps26
  go_wp2_with (first
    | (refine wpList_box_agg rfl 31 _ rfl g hg x.vals rfl ?_; intro w1 h1 l1 t1)
    | (refine wpList_alloc_agg rfl 31 rfl (g + 1) t1 RK.zero.vals (allocR _) ?_; intro w2 k2 l2 t2;
       have h2 : w2.heap[g]? = some (vobj 31 x.vals) := (l2.block g (by omega)).trans h1;
       obtain ⟨c0, c1, c2, c3⟩ := RK.cells_vals h2;
       have B2 : Hid (Below w.heap.size w w2) := Lib.hid (by rw [hg]; exact l1.trans (l2.mono (by omega)));
       have I2 := Lib.hid (H.out.below B2.out);
       have H2 := Lib.hid h2; have K2 := Lib.hid k2; have S2 := Lib.hid t2;
       clear h1 l1 l2 h2 k2 t1 t2))
  have hh := has_any x.A x.n x.c z S.run w2 I2.out.rowA.1 HAn.out
  rw [decide_eq_false HA.out] at hh
  refine hh.mono ?_
  clear hh
  rintro r w3 ⟨rfl, rfl⟩
  go_wp2_with fail
  have hh := has_any x.B x.m x.d z S.wait _ I2.out.rowB.1 HBm.out
  rw [decide_eq_false HW.out] at hh
  refine hh.mono ?_
  clear hh
  rintro r w4 ⟨rfl, rfl⟩
  go_wp2_with (first
    | (refine wpList_load_agg rfl 31 _ rfl g rfl x.vals ?hy _ HU.out rfl (sizeR _) ?_; (case hy => exact H2.out))
    | (go_at_call 44;
       refine (rrun_any x z S.run _ I2.out.rowA.1 HAn.out HN1.out HZ.out).mono ?_;
       rintro r w6 ⟨A1, n1, c1, rfl, own6, b6⟩;
       have O6 := Lib.hid own6; have I6 := Lib.hid (I2.out.below b6); have K6 := Lib.hid (kb_below K2.out b6); have B6 := Lib.hid (B2.out.trans (b6.mono B2.out.size));
       have S6 := Lib.hid b6.size;
       clear own6 b6)
    | (refine wpList_store_agg rfl 31 _ _ rfl (g + 1) RK.zero.vals (x.setA A1 n1 c1).vals rfl rfl ?hz rfl (sizeR _) (RK.ones_vals _) ?_; (case hz => exact K6.out); intro w7 h7 f7 t7))
  have i7 := I6.out.beside K6.out (by decide) f7
  have o7 := O6.out.frm f7 (fun j hj cs hc => by rw [show j = g + 1 from hj, K6.out] at hc; cases hc)
  refine bodyPost_ret (v := .tuple #[.agg (aggV (x.setA A1 n1 c1).vals), .int .i64 1, .slice none 0 0]) (results_agg2 Try.results26 rfl (loadR h7) rfl rfl) rfl ⟨_, rfl, ?_, ?_⟩
  · exact ⟨i7.most, i7.que, o7.mono (by have := HB.out; have := B2.out.size; omega), i7.wait⟩
  · exact B6.out.trans (f7.below B6.out.size (fun j hj e => by have e' : j = g + 1 := e; omega))

set_option maxRecDepth 100000 in
set_option maxHeartbeats 1000000 in
theorem radmit_wait (x : RK) (base : Nat) (S : BU) (z : Int) (w : World) (h : x.Is w base S) (ok : S.Ok) (hb : base ≤ w.heap.size) (hz : wf64 z) (ha : z ∉ S.run) (hw : z ∉ S.wait) (h1 : ¬ (S.run.length < S.most ∧ S.wait = [])) (hq : S.wait.length < S.que) :
    Calls Try.prog 26 #[.agg (aggV x.vals), .int .i64 z] w fun r w' => ∃ X : RK, r = .returned (.tuple #[.agg (aggV X.vals), .int .i64 2, .slice none 0 0]) ∧ X.Is w' base (S.waits z) ∧ Below w.heap.size w w' := by
  obtain ⟨fs, hu⟩ := undR
  have HU := Lib.hid hu
  obtain ⟨g, hg⟩ : ∃ g, w.heap.size = g := ⟨_, rfl⟩
  have hA : S.run.length = x.n := h.rowA.2
  have hB : S.wait.length = x.m := h.rowB.2
  have hmost : x.most = S.most := h.most
  have hque : x.que = S.que := h.que
  have hr1 := ok.lr
  have hm8 := ok.m8
  have hlw := ok.lw
  have hq8 := ok.q8
  have hn1000 : x.n ≤ 1000 := by omega
  have hm1000 : x.m ≤ 1000 := by omega
  have H := Lib.hid h
  have HOK := Lib.hid ok
  have HB := Lib.hid hb
  have HZ := Lib.hid hz
  have HN1 := Lib.hid hn1000
  have HM1 := Lib.hid hm1000
  have HAn := Lib.hid hA
  have HBm := Lib.hid hB
  have HA := Lib.hid ha
  have HW := Lib.hid hw
  have g0 : ¬ (x.n : Int) < x.most ∨ ((x.n : Int) < x.most ∧ ((x.m : Int) == 0) = false) := by
    by_cases e : S.run.length < S.most
    · refine .inr ⟨by omega, ?_⟩
      have := List.length_pos_iff.2 (fun e' : S.wait = [] => h1 ⟨e, e'⟩)
      simp; omega
    · exact .inl (by omega)
  have g2 : (x.m : Int) < x.que := by rw [hque, ← hB]; omega
  clear ha hw h1 hq
  rcases g0 with g0 | ⟨g0, g1⟩
  all_goals
    clear hu h hA hB ok hb hz hmost hque hr1 hm8 hlw hq8 hn1000 hm1000
    go_enter Try.func26, Try.ntmps26
    go_wp2_with (first
      | (refine wpList_box_agg rfl 31 _ rfl g hg x.vals rfl ?_; intro w1 h1 l1 t1)
      | (refine wpList_alloc_agg rfl 31 rfl (g + 1) t1 RK.zero.vals (allocR _) ?_; intro w2 k2 l2 t2;
         have h2 : w2.heap[g]? = some (vobj 31 x.vals) := (l2.block g (by omega)).trans h1;
         obtain ⟨c0, c1, c2, c3⟩ := RK.cells_vals h2;
         have B2 : Hid (Below w.heap.size w w2) := Lib.hid (by rw [hg]; exact l1.trans (l2.mono (by omega)));
         have I2 := Lib.hid (H.out.below B2.out);
         have H2 := Lib.hid h2; have K2 := Lib.hid k2; have S2 := Lib.hid t2;
         clear h1 l1 l2 h2 k2 t1 t2))
    have hh := has_any x.A x.n x.c z S.run w2 I2.out.rowA.1 HAn.out
    rw [decide_eq_false HA.out] at hh
    refine hh.mono ?_
    clear hh
    rintro r w3 ⟨rfl, rfl⟩
    go_wp2_with fail
    have hh := has_any x.B x.m x.d z S.wait _ I2.out.rowB.1 HBm.out
    rw [decide_eq_false HW.out] at hh
    refine hh.mono ?_
    clear hh
    rintro r w4 ⟨rfl, rfl⟩
    go_wp2_with (first
      | (refine wpList_load_agg rfl 31 _ rfl g rfl x.vals ?hy _ HU.out rfl (sizeR _) ?_; (case hy => exact H2.out))
      | (go_at_call 45;
         refine (rwait_any x z S.wait _ I2.out.rowB.1 HBm.out HM1.out HZ.out).mono ?_;
         rintro r w6 ⟨A1, n1, c1, rfl, own6, b6⟩;
         have O6 := Lib.hid own6; have I6 := Lib.hid (I2.out.below b6); have K6 := Lib.hid (kb_below K2.out b6); have B6 := Lib.hid (B2.out.trans (b6.mono B2.out.size));
         have S6 := Lib.hid b6.size;
         clear own6 b6)
      | (refine wpList_store_agg rfl 31 _ _ rfl (g + 1) RK.zero.vals (x.setB A1 n1 c1).vals rfl rfl ?hz rfl (sizeR _) (RK.ones_vals _) ?_; (case hz => exact K6.out); intro w7 h7 f7 t7))
    have i7 := I6.out.beside K6.out (by decide) f7
    have o7 := O6.out.frm f7 (fun j hj cs hc => by rw [show j = g + 1 from hj, K6.out] at hc; cases hc)
    refine bodyPost_ret (v := .tuple #[.agg (aggV (x.setB A1 n1 c1).vals), .int .i64 2, .slice none 0 0]) (results_agg2 Try.results26 rfl (loadR h7) rfl rfl) rfl ⟨_, rfl, ?_, ?_⟩
    · exact ⟨i7.most, i7.que, i7.run, o7.mono (by have := HB.out; have := B2.out.size; omega)⟩
    · exact B6.out.trans (f7.below B6.out.size (fun j hj e => by have e' : j = g + 1 := e; omega))

set_option maxRecDepth 100000 in
set_option maxHeartbeats 1000000 in
theorem radmit_turn (x : RK) (base : Nat) (S : BU) (z : Int) (w : World) (h : x.Is w base S) (ok : S.Ok) (hb : base ≤ w.heap.size) (hz : wf64 z) (ha : z ∉ S.run) (hw : z ∉ S.wait) (hl : S.run.length < S.most) (hq : ¬ S.wait.length < S.que) (y : Int) (l : List Int) (he : S.wait = y :: l) :
    Calls Try.prog 26 #[.agg (aggV x.vals), .int .i64 z] w fun r w' => ∃ (X : RK) (v : Value), r = .returned (.tuple #[.agg (aggV X.vals), .int .i64 2, v]) ∧ X.Is w' base ((S.turn y l).waits z) ∧ Ints w' w.heap.size v [y] ∧ Below w.heap.size w w' := by
  obtain ⟨fs, hu⟩ := undR
  have HU := Lib.hid hu
  obtain ⟨g, hg⟩ : ∃ g, w.heap.size = g := ⟨_, rfl⟩
  have hA : S.run.length = x.n := h.rowA.2
  have hB : S.wait.length = x.m := h.rowB.2
  have hmost : x.most = S.most := h.most
  have hque : x.que = S.que := h.que
  have hr1 := ok.lr
  have hm8 := ok.m8
  have hlw := ok.lw
  have hq8 := ok.q8
  have hn1000 : x.n ≤ 1000 := by omega
  have hm1000 : x.m ≤ 1000 := by omega
  have H := Lib.hid h
  have HOK := Lib.hid ok
  have HB := Lib.hid hb
  have HZ := Lib.hid hz
  have HN1 := Lib.hid hn1000
  have HM1 := Lib.hid hm1000
  have HAn := Lib.hid hA
  have HBm := Lib.hid hB
  have HA := Lib.hid ha
  have HW := Lib.hid hw
  have HL := Lib.hid hl
  have HE := Lib.hid he
  have HY := Lib.hid (ok.ww y (by rw [he]; simp))
  have HLL : Hid (l.length ≤ 8) := Lib.hid (by rw [he] at hlw; simp at hlw; omega)
  have hx0 : 0 < x.m := by rw [← hB, he]; simp
  have g1 : (x.n : Int) < x.most := by rw [hmost, ← hA]; omega
  have g2 : ((x.m : Int) == 0) = false := by simp; omega
  have g3 : ¬ (x.m : Int) < x.que := by rw [hque, ← hB]; omega
  have g4 : (0 : Int) < (x.m : Int) := by omega
  clear ha hw hl hq he hx0
  clear hu h hA hB ok hb hz hmost hque hr1 hm8 hlw hq8 hn1000 hm1000
  go_enter Try.func26, Try.ntmps26
  go_wp2_with (first
    | (refine wpList_box_agg rfl 31 _ rfl g hg x.vals rfl ?_; intro w1 h1 l1 t1)
    | (refine wpList_alloc_agg rfl 31 rfl (g + 1) t1 RK.zero.vals (allocR _) ?_; intro w2 k2 l2 t2;
       have h2 : w2.heap[g]? = some (vobj 31 x.vals) := (l2.block g (by omega)).trans h1;
       obtain ⟨c0, c1, c2, c3⟩ := RK.cells_vals h2;
       have B2 : Hid (Below w.heap.size w w2) := Lib.hid (by rw [hg]; exact l1.trans (l2.mono (by omega)));
       have I2 := Lib.hid (H.out.below B2.out);
       have H2 := Lib.hid h2; have K2 := Lib.hid k2; have S2 := Lib.hid t2;
       clear h1 l1 l2 h2 k2 t1 t2))
  have hh := has_any x.A x.n x.c z S.run w2 I2.out.rowA.1 HAn.out
  rw [decide_eq_false HA.out] at hh
  refine hh.mono ?_
  clear hh
  rintro r w3 ⟨rfl, rfl⟩
  go_wp2_with fail
  have hh := has_any x.B x.m x.d z S.wait _ I2.out.rowB.1 HBm.out
  rw [decide_eq_false HW.out] at hh
  refine hh.mono ?_
  clear hh
  rintro r w4 ⟨rfl, rfl⟩
  go_wp2_with (first
    | (refine wpList_load_agg rfl 31 _ rfl g rfl x.vals ?hy _ HU.out rfl (sizeR _) ?_; (case hy => exact H2.out))
    | (go_at_call 27;
       refine (rpick_one x base S y l _ I2.out HOK.out (by have := HB.out; have := B2.out.size; omega) HL.out HE.out).mono ?_;
       rintro r w4 ⟨X, rfl, i4, b4⟩;
       have I4 := Lib.hid i4; have K4 := Lib.hid (kb_below K2.out b4); have B4 := Lib.hid (B2.out.trans (b4.mono B2.out.size));
       obtain ⟨g4, hg4⟩ : ∃ g4, w4.heap.size = g4 := ⟨_, rfl⟩;
       have T4 : Hid (g + 2 ≤ g4) := Lib.hid (by have := b4.size; have := S2.out; omega);
       clear i4 b4 c0 c1 c2 c3)
    | (refine wpList_alloc_agg rfl 31 rfl g4 hg4 RK.zero.vals (allocR _) ?_; intro w5 j5 l5 t5;
       have I5 := Lib.hid (I4.out.below (by rw [hg4]; exact l5)); have K5 := Lib.hid ((l5.block (g + 1) (by have := T4.out; omega)).trans K4.out); have B5 : Hid (Below w.heap.size w w5) := Lib.hid (B4.out.trans (l5.mono (by have := T4.out; omega)));
       clear l5 t5)
    | (refine wpList_store_agg rfl 31 _ _ rfl g4 RK.zero.vals X.vals rfl rfl ?hz rfl (sizeR _) (RK.ones_vals _) ?_; (case hz => exact j5); intro w6 j6 f6 t6;
       have I6 := Lib.hid (I5.out.beside j5 (by decide) f6); have K6 := Lib.hid ((f6.block (g + 1) (heap_lt K5.out) (by have := T4.out; show ¬ (g + 1 = g4); omega)).trans K5.out); have B6 : Hid (Below w.heap.size w w6) := Lib.hid (B5.out.trans (f6.below B5.out.size (fun j hj e => by have e' : j = g4 := e; have := T4.out; omega)));
       clear f6 t6 j5)
    | (refine wpList_load_agg rfl 31 _ rfl g4 rfl X.vals ?hy _ HU.out rfl (sizeR _) ?_; (case hy => exact j6))
    | (go_at_call 45;
       refine (rwait_any X z l w6 I6.out.rowB.1 I6.out.rowB.2 (by have h1 := I6.out.rowB.2; have h2 := HLL.out; have h3 : l.length = X.m := h1; omega) HZ.out).mono ?_;
       rintro r w8 ⟨A1, n1, c1, rfl, own8, b8⟩;
       have O8 := Lib.hid own8; have I8 := Lib.hid (I6.out.below b8); have K8 := Lib.hid (kb_below K6.out b8); have B8 := Lib.hid (B6.out.trans (b8.mono B6.out.size));
       have K9 := Lib.hid (kb_alloc K8.out (.cells #[.int .i64 y] 3));
       clear own8 b8 j6)
    | (refine wpList_store_agg rfl 31 _ _ rfl (g + 1) RK.zero.vals (X.setB A1 n1 c1).vals rfl rfl ?hz rfl (sizeR _) (RK.ones_vals _) ?_; (case hz => exact K9.out); intro w9 h9 f9 t9))
  have al8 := below_alloc w8 (.cells #[.int .i64 y] 3)
  have i9 := (I8.out.below al8).beside K9.out (by decide) f9
  have o9 := (O8.out.below al8).frm f9 (fun j hj cs hc => by rw [show j = g + 1 from hj, K9.out] at hc; cases hc)
  have v9 := (ints_new (base := w.heap.size) w8 y HY.out B8.out.size).frm f9 (fun j hj cs hc => by rw [show j = g + 1 from hj, K9.out] at hc; cases hc)
  refine bodyPost_ret (v := .tuple #[.agg (aggV (X.setB A1 n1 c1).vals), .int .i64 2, .slice (some ⟨w8.heap.size, 0, none⟩) 1 1]) (results_agg2 Try.results26 rfl (loadR h9) rfl rfl) rfl ⟨X.setB A1 n1 c1, _, rfl, ?_, v9, ?_⟩
  · exact ⟨i9.most, i9.que, i9.run, o9.mono (by have := HB.out; have := B6.out.size; omega)⟩
  · exact (B8.out.trans (al8.mono B8.out.size)).trans (f9.below (by have := B8.out.size; simp; omega) (fun j hj e => by have e' : j = g + 1 := e; omega))

/-- Admit, as it comes. -/
theorem radmit_any (x : RK) (base : Nat) (S : BU) (z : Int) (w : World) (h : x.Is w base S) (ok : S.Ok) (hb : base ≤ w.heap.size) (hz : wf64 z) :
    Calls Try.prog 26 #[.agg (aggV x.vals), .int .i64 z] w fun r w' => ∃ (X : RK) (v : Value), r = .returned (.tuple #[.agg (aggV X.vals), .int .i64 (S.tells z), v]) ∧ X.Is w' base (S.adm z) ∧ Ints w' w.heap.size v (S.lets z) ∧ Below w.heap.size w w' := by
  have hlw := ok.lw
  by_cases h0 : z ∈ S.run ∨ z ∈ S.wait
  · rw [show S.tells z = 3 by simp [BU.tells, h0], show S.lets z = [] by simp [BU.lets, h0], show S.adm z = S by simp [BU.adm, h0]]
    have hA : Calls Try.prog 26 #[.agg (aggV x.vals), .int .i64 z] w fun r w' => r = .returned (.tuple #[.agg (aggV x.vals), .int .i64 3, .slice none 0 0]) ∧ Below w.heap.size w w' := by
      by_cases hn : z ∈ S.run
      · exact radmit_runs x base S z w h ok hb hz hn
      · exact radmit_waits x base S z w h ok hb hz hn (h0.resolve_left hn)
    refine hA.mono ?_
    rintro r w' ⟨rfl, hb⟩
    exact ⟨_, _, rfl, h.below hb, Ints.nil _ _, hb⟩
  · have hn : z ∉ S.run := fun e => h0 (.inl e)
    have hm : z ∉ S.wait := fun e => h0 (.inr e)
    by_cases h1 : S.run.length < S.most ∧ S.wait = []
    · rw [show S.tells z = 1 by simp only [BU.tells, if_neg h0, if_pos h1], show S.lets z = [] by simp only [BU.lets, if_neg h0, if_pos h1], show S.adm z = S.runs z by simp only [BU.adm, if_neg h0, if_pos h1]]
      refine (radmit_run x base S z w h ok hb hz hn hm h1.1 h1.2).mono ?_
      rintro r w' ⟨X, rfl, h2, h3⟩
      exact ⟨_, _, rfl, h2, Ints.nil _ _, h3⟩
    · by_cases h2 : S.wait.length < S.que
      · rw [show S.tells z = 2 by simp only [BU.tells, if_neg h0, if_neg h1, if_pos h2], show S.lets z = [] by simp only [BU.lets, if_neg h0, if_neg h1, if_pos h2], show S.adm z = S.waits z by simp only [BU.adm, if_neg h0, if_neg h1, if_pos h2]]
        refine (radmit_wait x base S z w h ok hb hz hn hm h1 h2).mono ?_
        rintro r w' ⟨X, rfl, h2, h3⟩
        exact ⟨_, _, rfl, h2, Ints.nil _ _, h3⟩
      · by_cases hl : S.run.length < S.most
        · cases he : S.wait with
          | nil => exact (h1 ⟨hl, he⟩).elim
          | cons y l =>
            rw [show S.tells z = 2 by unfold BU.tells; rw [if_neg h0, if_neg h1, if_neg h2]; simp only [he, if_pos hl], show S.lets z = [y] by unfold BU.lets; rw [if_neg h0, if_neg h1, if_neg h2]; simp only [he, if_pos hl], show S.adm z = (S.turn y l).waits z by unfold BU.adm; rw [if_neg h0, if_neg h1, if_neg h2]; simp only [he, if_pos hl]]
            exact radmit_turn x base S z w h ok hb hz hn hm hl h2 y l he
        · have e3 : S.tells z = 3 ∧ S.lets z = [] ∧ S.adm z = S := by
            unfold BU.tells BU.lets BU.adm
            rw [if_neg h0, if_neg h1, if_neg h2, if_neg h0, if_neg h1, if_neg h2, if_neg h0, if_neg h1, if_neg h2]
            cases he : S.wait with
            | nil => exact ⟨rfl, rfl, rfl⟩
            | cons y l => simp [hl]
          rw [e3.1, e3.2.1, e3.2.2]
          refine (radmit_full x base S z w h ok hb hz hn hm hl h2).mono ?_
          rintro r w' ⟨rfl, hb⟩
          exact ⟨_, _, rfl, h.below hb, Ints.nil _ _, hb⟩
/-- Pick, as it comes. -/
theorem rpick_any (x : RK) (base : Nat) (S : BU) (w : World) (h : x.Is w base S) (ok : S.Ok) (hb : base ≤ w.heap.size) :
    Calls Try.prog 27 #[.agg (aggV x.vals)] w fun r w' => ∃ X : RK, r = .returned (.tuple #[.agg (aggV X.vals), .int .i64 S.first, .bool S.picked]) ∧ X.Is w' base S.pick ∧ Below w.heap.size w w' := by
  have hA : S.run.length = x.n := h.rowA.2
  have hB : S.wait.length = x.m := h.rowB.2
  have hmost : x.most = S.most := h.most
  by_cases hr : S.run.length < S.most
  · cases hw : S.wait with
    | nil =>
      refine (rpick_no x w (.inr ⟨by omega, by rw [← hB, hw]; rfl⟩)).mono ?_
      rintro r w' ⟨rfl, hb⟩
      rw [show S.first = 0 by simp [BU.first, hw], show S.picked = false by simp [BU.picked, hw], show S.pick = S by simp [BU.pick, hw]]
      exact ⟨x, rfl, h.below hb, hb⟩
    | cons y l =>
      rw [show S.first = y by simp [BU.first, hw, hr], show S.picked = true by simp [BU.picked, hw, hr], show S.pick = S.turn y l by simp [BU.pick, hw, hr]]
      exact rpick_one x base S y l w h ok hb hr hw
  · refine (rpick_no x w (.inl (by omega))).mono ?_
    rintro r w' ⟨rfl, hb⟩
    rw [show S.first = 0 by unfold BU.first; split <;> simp [hr], show S.picked = false by unfold BU.picked; split <;> simp [hr], show S.pick = S by unfold BU.pick; split <;> simp [hr]]
    exact ⟨x, rfl, h.below hb, hb⟩
end Go.Proofs.Ytnmcnniilihecaa
