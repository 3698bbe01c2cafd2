/- Contracts of porpoiseref10: the document's bulk, by value. (Written by wip/tools/gen_ref10.py.) -/
import Derived.Test.YtnmcnniilihecaaRefInts
import Derived.Test.YtnmcnniilihecaaCnfCell
import Derived.Test.YtnmcnniilihecaaBulMath
namespace Go.Proofs.Ytnmcnniilihecaa
set_option linter.unusedVariables false
open Go.ChangeShapes Go.WideShapes Go.ChangeAt Go.RowKit

/-- The document's bulk, by value: its numbers, and its two lists as slices. -/
structure RK where
  most : Int
  que : Int
  A : Option Addr
  n : Nat
  c : Nat
  B : Option Addr
  m : Nat
  d : Nat
namespace RK
def vals (x : RK) : List Value := [.int .i64 x.most, .int .i64 x.que, .slice x.A x.n x.c, .slice x.B x.m x.d]
def zero : RK := ⟨0, 0, none, 0, 0, none, 0, 0⟩
def setA (x : RK) (A : Option Addr) (n c : Nat) : RK := ⟨x.most, x.que, A, n, c, x.B, x.m, x.d⟩
def setB (x : RK) (B : Option Addr) (m d : Nat) : RK := ⟨x.most, x.que, x.A, x.n, x.c, B, m, d⟩
theorem len_vals (x : RK) : x.vals.length = 4 := rfl
theorem ones_vals (x : RK) : Ones x.vals := by intro v hv; simp only [vals, List.mem_cons, List.not_mem_nil, or_false] at hv; rcases hv with rfl | rfl | rfl | rfl <;> rfl
theorem cells_vals {w : World} {g : Nat} {ty : TypeId} {x : RK} (h : w.heap[g]? = some (vobj ty x.vals)) : w.cell? ⟨g, 0, none⟩ = some (.int .i64 x.most) ∧ w.cell? ⟨g, 1, none⟩ = some (.int .i64 x.que) ∧ w.cell? ⟨g, 2, none⟩ = some (.slice x.A x.n x.c) ∧ w.cell? ⟨g, 3, none⟩ = some (.slice x.B x.m x.d) :=
  ⟨vobj_cell h rfl, vobj_cell h rfl, vobj_cell h rfl, vobj_cell h rfl⟩
end RK
theorem undR : ∃ fs, Try.prog.underlying 31 = some (.struct fs) := ⟨_, Try.underlying31⟩
theorem sizeR (x : RK) : (Try.prog.info? 31).map (·.size) = some x.vals.length := by rw [x.len_vals]; kernel_rfl
theorem allocR (w : World) : (Instr.alloc 31 true (.tuple #[])).run Try.prog w = .ok (.pointer (some ⟨w.heap.size, 0, none⟩)) (w.alloc (vobj 31 RK.zero.vals)) := by kernel_rfl
theorem loadR {w : World} {g : Nat} {x : RK} (h : w.heap[g]? = some (vobj 31 x.vals)) : (loadVar 31 ⟨g, 0, none⟩).run Try.prog w = .ok (.agg (aggV x.vals)) w := by
  obtain ⟨fs, hu⟩ := undR
  exact run_load_agg w _ g x.vals _ h hu rfl (sizeR x)

set_option maxRecDepth 100000 in
set_option maxHeartbeats 1000000 in
theorem rrun_any (x : RK) (z : Int) (zs : List Int) (w : World) (hr : Row .i64 w x.A x.n zs) (hl : zs.length = x.n) (hn : x.n ≤ 1000) (hz : wf64 z) :
    Calls Try.prog 44 #[.agg (aggV x.vals), .int .i64 z] w fun r w' => ∃ A n c, r = .returned (.agg (aggV (x.setA A n c).vals)) ∧ Ints w' w.heap.size (.slice A n c) (zs ++ [z]) ∧ Below w.heap.size w w' := by
  obtain ⟨fs, hu⟩ := undR
  have HU := Lib.hid hu
  have HR := Lib.hid hr
  have HL := Lib.hid hl
  have HN := Lib.hid hn
  have HZ := Lib.hid hz
  obtain ⟨g, hg⟩ : ∃ g, w.heap.size = g := ⟨_, rfl⟩
  clear hu hr hl hn hz
  go_enter Try.func44, Try.ntmps44
  go_wp2_with (first
    | (refine wpList_box_agg rfl 31 _ rfl g hg x.vals rfl ?_; intro w1 h1 l1 t1)
    | (refine wpList_alloc_agg rfl 31 rfl (g + 1) t1 RK.zero.vals (allocR _) ?_; intro w2 k2 l2 t2;
       have h2 : w2.heap[g]? = some (vobj 31 x.vals) := (l2.block g (by omega)).trans h1;
       have B2 : Hid (Below w.heap.size w w2) := Lib.hid (by rw [hg]; exact l1.trans (l2.mono (by omega)));
       have c2 : (w2.alloc (.cells #[] 3)).cell? ⟨g, 2, none⟩ = some (.slice x.A x.n x.c) := vobj_cell (kb_alloc h2 _) rfl;
       have R2 := Lib.hid (HR.out.later (B2.out.alloc B2.out.size (.cells #[] 3)));
       have H2 := Lib.hid h2; have K2 := Lib.hid k2; have T2 := Lib.hid t2;
       clear h1 l1 l2 h2 k2 t1 t2)
    | (at_builtin;
       refine wpList_app (base := w2.heap.size) rfl (.tmp 6) (.tmp 8) rfl rfl rfl (ints_empty w2) R2.out HL.out (by have := HN.out; simp; omega) (by simp) ?_;
       intro v3 w3 own3 gr3 _;
       have b3 := grown_below gr3 (by simp) (ints_empty w2).low;
       have OWN3 := Lib.hid own3;
       have h3 : w3.heap[g]? = some (vobj 31 x.vals) := (b3.block g (by have := T2.out; omega)).trans (kb_alloc H2.out _);
       have k3 : w3.heap[g + 1]? = some (vobj 31 RK.zero.vals) := (b3.block (g + 1) (by have := T2.out; omega)).trans (kb_alloc K2.out _);
       have B3 : Hid (Below w.heap.size w w3) := Lib.hid ((B2.out.alloc B2.out.size _).trans (b3.mono B2.out.size));
       have S3 : Hid (w2.heap.size ≤ w3.heap.size) := Lib.hid (by have := b3.size; simp at this; omega);
       have H3 := Lib.hid h3; have K3 := Lib.hid k3;
       clear own3 gr3 b3 h3 k3 c2 H2 K2 B2 R2)
    | (at_builtin;
       refine wpList_app (base := w2.heap.size) rfl (.tmp 10) (.tmp 12) rfl rfl rfl (OWN3.out.alloc _) (row_one w3 z HZ.out) rfl (by have := HN.out; simp [HL.out]; omega) (by have := S3.out; simp; omega) ?_;
       intro v4 w4 own4 gr4 _;
       have b4 := grown_below gr4 (by have := S3.out; simp; omega) OWN3.out.low;
       obtain ⟨A', n', c', hv, _, _, _, _⟩ := own_row' own4;
       subst hv;
       have OWN4 := Lib.hid own4;
       have h4 : w4.heap[g]? = some (vobj 31 x.vals) := (b4.block g (by have := T2.out; omega)).trans (kb_alloc H3.out _);
       have k4 : w4.heap[g + 1]? = some (vobj 31 RK.zero.vals) := (b4.block (g + 1) (by have := T2.out; omega)).trans (kb_alloc K3.out _);
       have B4 : Hid (Below w.heap.size w w4) := Lib.hid ((B3.out.alloc B3.out.size _).trans (b4.mono (by have := T2.out; omega)));
       have H4 := Lib.hid h4; have K4 := Lib.hid k4;
       clear own4 gr4 b4 h4 k4 H3 K3 B3 OWN3 S3)
    | (refine wpList_store_one rfl 29 _ _ rfl g 2 31 x.vals (.slice A' n' c') rfl rfl ?hb (by rw [RK.len_vals]; decide) (by kernel_rfl) rfl rfl ?_; (case hb => exact H4.out);
       intro w5 h5 f5 t5;
       have h5' : w5.heap[g]? = some (vobj 31 (x.setA A' n' c').vals) := h5;
       have k5 : w5.heap[g + 1]? = some (vobj 31 RK.zero.vals) := (f5.block (g + 1) (heap_lt K4.out) (by show ¬ (g + 1 = g); omega)).trans K4.out;
       have O5 := Lib.hid (OWN4.out.frm f5 (fun j hj cs hc => by rw [show j = g from hj, H4.out] at hc; cases hc));
       have F5 := Lib.hid f5;
       have H5 := Lib.hid h5'; have K5 := Lib.hid k5;
       clear h5 f5 h5' k5 H4 K4)
    | (refine wpList_load_agg rfl 31 _ rfl g rfl (x.setA A' n' c').vals ?hy _ HU.out rfl (sizeR _) ?_; (case hy => exact H5.out))
    | (refine wpList_store_agg rfl 31 _ _ rfl (g + 1) RK.zero.vals (x.setA A' n' c').vals rfl rfl ?hz rfl (sizeR _) (RK.ones_vals _) ?_; (case hz => exact K5.out); intro w6 h6 f6 t6))
  refine bodyPost_ret (v := .agg (aggV (x.setA A' n' c').vals)) (results_agg Try.results44 rfl (loadR h6)) rfl ⟨A', n', c', rfl, ?_, ?_⟩
  · have o6 := O5.out.frm f6 (fun j hj cs hc => by rw [show j = g + 1 from hj, K5.out] at hc; cases hc)
    exact o6.mono (by have := T2.out; omega)
  · have := T2.out
    subst hg
    exact (B4.out.trans (F5.out.below (by have := B4.out.size; omega) (fun j hj e => by omega))).trans (f6.below (by have := B4.out.size; omega) (fun j hj e => by omega))

set_option maxRecDepth 100000 in
set_option maxHeartbeats 1000000 in
theorem rwait_any (x : RK) (z : Int) (zs : List Int) (w : World) (hr : Row .i64 w x.B x.m zs) (hl : zs.length = x.m) (hn : x.m ≤ 1000) (hz : wf64 z) :
    Calls Try.prog 45 #[.agg (aggV x.vals), .int .i64 z] w fun r w' => ∃ A n c, r = .returned (.agg (aggV (x.setB A n c).vals)) ∧ Ints w' w.heap.size (.slice A n c) (zs ++ [z]) ∧ Below w.heap.size w w' := by
  obtain ⟨fs, hu⟩ := undR
  have HU := Lib.hid hu
  have HR := Lib.hid hr
  have HL := Lib.hid hl
  have HN := Lib.hid hn
  have HZ := Lib.hid hz
  obtain ⟨g, hg⟩ : ∃ g, w.heap.size = g := ⟨_, rfl⟩
  clear hu hr hl hn hz
  go_enter Try.func45, Try.ntmps45
  go_wp2_with (first
    | (refine wpList_box_agg rfl 31 _ rfl g hg x.vals rfl ?_; intro w1 h1 l1 t1)
    | (refine wpList_alloc_agg rfl 31 rfl (g + 1) t1 RK.zero.vals (allocR _) ?_; intro w2 k2 l2 t2;
       have h2 : w2.heap[g]? = some (vobj 31 x.vals) := (l2.block g (by omega)).trans h1;
       have B2 : Hid (Below w.heap.size w w2) := Lib.hid (by rw [hg]; exact l1.trans (l2.mono (by omega)));
       have c2 : (w2.alloc (.cells #[] 3)).cell? ⟨g, 3, none⟩ = some (.slice x.B x.m x.d) := vobj_cell (kb_alloc h2 _) rfl;
       have R2 := Lib.hid (HR.out.later (B2.out.alloc B2.out.size (.cells #[] 3)));
       have H2 := Lib.hid h2; have K2 := Lib.hid k2; have T2 := Lib.hid t2;
       clear h1 l1 l2 h2 k2 t1 t2)
    | (at_builtin;
       refine wpList_app (base := w2.heap.size) rfl (.tmp 6) (.tmp 8) rfl rfl rfl (ints_empty w2) R2.out HL.out (by have := HN.out; simp; omega) (by simp) ?_;
       intro v3 w3 own3 gr3 _;
       have b3 := grown_below gr3 (by simp) (ints_empty w2).low;
       have OWN3 := Lib.hid own3;
       have h3 : w3.heap[g]? = some (vobj 31 x.vals) := (b3.block g (by have := T2.out; omega)).trans (kb_alloc H2.out _);
       have k3 : w3.heap[g + 1]? = some (vobj 31 RK.zero.vals) := (b3.block (g + 1) (by have := T2.out; omega)).trans (kb_alloc K2.out _);
       have B3 : Hid (Below w.heap.size w w3) := Lib.hid ((B2.out.alloc B2.out.size _).trans (b3.mono B2.out.size));
       have S3 : Hid (w2.heap.size ≤ w3.heap.size) := Lib.hid (by have := b3.size; simp at this; omega);
       have H3 := Lib.hid h3; have K3 := Lib.hid k3;
       clear own3 gr3 b3 h3 k3 c2 H2 K2 B2 R2)
    | (at_builtin;
       refine wpList_app (base := w2.heap.size) rfl (.tmp 10) (.tmp 12) rfl rfl rfl (OWN3.out.alloc _) (row_one w3 z HZ.out) rfl (by have := HN.out; simp [HL.out]; omega) (by have := S3.out; simp; omega) ?_;
       intro v4 w4 own4 gr4 _;
       have b4 := grown_below gr4 (by have := S3.out; simp; omega) OWN3.out.low;
       obtain ⟨A', n', c', hv, _, _, _, _⟩ := own_row' own4;
       subst hv;
       have OWN4 := Lib.hid own4;
       have h4 : w4.heap[g]? = some (vobj 31 x.vals) := (b4.block g (by have := T2.out; omega)).trans (kb_alloc H3.out _);
       have k4 : w4.heap[g + 1]? = some (vobj 31 RK.zero.vals) := (b4.block (g + 1) (by have := T2.out; omega)).trans (kb_alloc K3.out _);
       have B4 : Hid (Below w.heap.size w w4) := Lib.hid ((B3.out.alloc B3.out.size _).trans (b4.mono (by have := T2.out; omega)));
       have H4 := Lib.hid h4; have K4 := Lib.hid k4;
       clear own4 gr4 b4 h4 k4 H3 K3 B3 OWN3 S3)
    | (refine wpList_store_one rfl 29 _ _ rfl g 3 31 x.vals (.slice A' n' c') rfl rfl ?hb (by rw [RK.len_vals]; decide) (by kernel_rfl) rfl rfl ?_; (case hb => exact H4.out);
       intro w5 h5 f5 t5;
       have h5' : w5.heap[g]? = some (vobj 31 (x.setB A' n' c').vals) := h5;
       have k5 : w5.heap[g + 1]? = some (vobj 31 RK.zero.vals) := (f5.block (g + 1) (heap_lt K4.out) (by show ¬ (g + 1 = g); omega)).trans K4.out;
       have O5 := Lib.hid (OWN4.out.frm f5 (fun j hj cs hc => by rw [show j = g from hj, H4.out] at hc; cases hc));
       have F5 := Lib.hid f5;
       have H5 := Lib.hid h5'; have K5 := Lib.hid k5;
       clear h5 f5 h5' k5 H4 K4)
    | (refine wpList_load_agg rfl 31 _ rfl g rfl (x.setB A' n' c').vals ?hy _ HU.out rfl (sizeR _) ?_; (case hy => exact H5.out))
    | (refine wpList_store_agg rfl 31 _ _ rfl (g + 1) RK.zero.vals (x.setB A' n' c').vals rfl rfl ?hz rfl (sizeR _) (RK.ones_vals _) ?_; (case hz => exact K5.out); intro w6 h6 f6 t6))
  refine bodyPost_ret (v := .agg (aggV (x.setB A' n' c').vals)) (results_agg Try.results45 rfl (loadR h6)) rfl ⟨A', n', c', rfl, ?_, ?_⟩
  · have o6 := O5.out.frm f6 (fun j hj cs hc => by rw [show j = g + 1 from hj, K5.out] at hc; cases hc)
    exact o6.mono (by have := T2.out; omega)
  · have := T2.out
    subst hg
    exact (B4.out.trans (F5.out.below (by have := B4.out.size; omega) (fun j hj e => by omega))).trans (f6.below (by have := B4.out.size; omega) (fun j hj e => by omega))

set_option maxRecDepth 100000 in
set_option maxHeartbeats 1000000 in
theorem rdrop_any (x : RK) (z : Int) (zs : List Int) (w : World) (hr : Row .i64 w x.B x.m zs) (hl : zs.length = x.m) (hn : x.m ≤ 1000) :
    Calls Try.prog 28 #[.agg (aggV x.vals), .int .i64 z] w fun r w' => ∃ A n c, r = .returned (.tuple #[.agg (aggV (x.setB A n c).vals), .bool (decide (z ∈ zs))]) ∧ Ints w' w.heap.size (.slice A n c) (zs.erase z) ∧ Below w.heap.size w w' := by
  obtain ⟨fs, hu⟩ := undR
  have HU := Lib.hid hu
  have HR := Lib.hid hr
  have HL := Lib.hid hl
  have HN := Lib.hid hn
  obtain ⟨g, hg⟩ : ∃ g, w.heap.size = g := ⟨_, rfl⟩
  clear hu hr hl hn
  go_enter Try.func28, Try.ntmps28
  go_wp2_with (first
    | (refine wpList_box_agg rfl 31 _ rfl g hg x.vals rfl ?_; intro w1 h1 l1 t1)
    | (refine wpList_alloc_agg rfl 31 rfl (g + 1) t1 RK.zero.vals (allocR _) ?_; intro w2 k2 l2 t2;
       have h2 : w2.heap[g]? = some (vobj 31 x.vals) := (l2.block g (by omega)).trans h1;
       have B2 : Hid (Below w.heap.size w w2) := Lib.hid (by rw [hg]; exact l1.trans (l2.mono (by omega)));
       have c2 : w2.cell? ⟨g, 3, none⟩ = some (.slice x.B x.m x.d) := vobj_cell h2 rfl;
       have R2 := Lib.hid (HR.out.later B2.out);
       have H2 := Lib.hid h2; have K2 := Lib.hid k2;
       clear h1 l1 l2 h2 k2)
    | (go_at_call 24; refine (rremove_any x.B x.m x.d z zs w2 R2.out HL.out HN.out).mono ?_; rintro r w3 ⟨v3, rfl, own3, b3⟩;
       obtain ⟨A', n', c', hv, _, _, _, _⟩ := own_row' own3;
       subst hv;
       have OWN3 := Lib.hid own3;
       have H3 := Lib.hid (kb_below H2.out b3); have K3 := Lib.hid (kb_below K2.out b3);
       have B3 := Lib.hid (B2.out.trans (b3.mono B2.out.size));
       clear own3 b3 c2 H2 K2 B2 R2)
    | (refine wpList_store_one rfl 29 _ _ rfl g 3 31 x.vals (.slice A' n' c') rfl rfl ?hb (by rw [RK.len_vals]; decide) (by kernel_rfl) rfl rfl ?_; (case hb => exact H3.out);
       intro w5 h5 f5 t5;
       have h5' : w5.heap[g]? = some (vobj 31 (x.setB A' n' c').vals) := h5;
       have k5 : w5.heap[g + 1]? = some (vobj 31 RK.zero.vals) := (f5.block (g + 1) (heap_lt K3.out) (by show ¬ (g + 1 = g); omega)).trans K3.out;
       have O5 := Lib.hid (OWN3.out.frm f5 (fun j hj cs hc => by rw [show j = g from hj, H3.out] at hc; cases hc));
       have F5 := Lib.hid f5;
       have H5 := Lib.hid h5'; have K5 := Lib.hid k5;
       clear h5 f5 h5' k5 H3 K3)
    | (refine wpList_load_agg rfl 31 _ rfl g rfl (x.setB A' n' c').vals ?hy _ HU.out rfl (sizeR _) ?_; (case hy => exact H5.out))
    | (refine wpList_store_agg rfl 31 _ _ rfl (g + 1) RK.zero.vals (x.setB A' n' c').vals rfl rfl ?hz rfl (sizeR _) (RK.ones_vals _) ?_; (case hz => exact K5.out); intro w6 h6 f6 t6))
  refine bodyPost_ret (v := .tuple #[.agg (aggV (x.setB A' n' c').vals), .bool (decide (z ∈ zs))]) (results_agg1 Try.results28 rfl (loadR h6) rfl) rfl ⟨A', n', c', rfl, ?_, ?_⟩
  · have o6 := O5.out.frm f6 (fun j hj cs hc => by rw [show j = g + 1 from hj, K5.out] at hc; cases hc)
    exact o6.mono (by omega)
  · have := t2
    subst hg
    exact (B3.out.trans (F5.out.below (by have := B3.out.size; omega) (fun j hj e => by omega))).trans (f6.below (by have := B3.out.size; omega) (fun j hj e => by omega))

set_option maxRecDepth 100000 in
set_option maxHeartbeats 1000000 in
theorem rfree_any (x : RK) (z : Int) (zs : List Int) (w : World) (hr : Row .i64 w x.A x.n zs) (hl : zs.length = x.n) (hn : x.n ≤ 1000) :
    Calls Try.prog 29 #[.agg (aggV x.vals), .int .i64 z] w fun r w' => ∃ A n c, r = .returned (.tuple #[.agg (aggV (x.setA A n c).vals), .bool (decide (z ∈ zs))]) ∧ Ints w' w.heap.size (.slice A n c) (zs.erase z) ∧ Below w.heap.size w w' := by
  obtain ⟨fs, hu⟩ := undR
  have HU := Lib.hid hu
  have HR := Lib.hid hr
  have HL := Lib.hid hl
  have HN := Lib.hid hn
  obtain ⟨g, hg⟩ : ∃ g, w.heap.size = g := ⟨_, rfl⟩
  clear hu hr hl hn
  go_enter Try.func29, Try.ntmps29
  go_wp2_with (first
    | (refine wpList_box_agg rfl 31 _ rfl g hg x.vals rfl ?_; intro w1 h1 l1 t1)
    | (refine wpList_alloc_agg rfl 31 rfl (g + 1) t1 RK.zero.vals (allocR _) ?_; intro w2 k2 l2 t2;
       have h2 : w2.heap[g]? = some (vobj 31 x.vals) := (l2.block g (by omega)).trans h1;
       have B2 : Hid (Below w.heap.size w w2) := Lib.hid (by rw [hg]; exact l1.trans (l2.mono (by omega)));
       have c2 : w2.cell? ⟨g, 2, none⟩ = some (.slice x.A x.n x.c) := vobj_cell h2 rfl;
       have R2 := Lib.hid (HR.out.later B2.out);
       have H2 := Lib.hid h2; have K2 := Lib.hid k2;
       clear h1 l1 l2 h2 k2)
    | (go_at_call 24; refine (rremove_any x.A x.n x.c z zs w2 R2.out HL.out HN.out).mono ?_; rintro r w3 ⟨v3, rfl, own3, b3⟩;
       obtain ⟨A', n', c', hv, _, _, _, _⟩ := own_row' own3;
       subst hv;
       have OWN3 := Lib.hid own3;
       have H3 := Lib.hid (kb_below H2.out b3); have K3 := Lib.hid (kb_below K2.out b3);
       have B3 := Lib.hid (B2.out.trans (b3.mono B2.out.size));
       clear own3 b3 c2 H2 K2 B2 R2)
    | (refine wpList_store_one rfl 29 _ _ rfl g 2 31 x.vals (.slice A' n' c') rfl rfl ?hb (by rw [RK.len_vals]; decide) (by kernel_rfl) rfl rfl ?_; (case hb => exact H3.out);
       intro w5 h5 f5 t5;
       have h5' : w5.heap[g]? = some (vobj 31 (x.setA A' n' c').vals) := h5;
       have k5 : w5.heap[g + 1]? = some (vobj 31 RK.zero.vals) := (f5.block (g + 1) (heap_lt K3.out) (by show ¬ (g + 1 = g); omega)).trans K3.out;
       have O5 := Lib.hid (OWN3.out.frm f5 (fun j hj cs hc => by rw [show j = g from hj, H3.out] at hc; cases hc));
       have F5 := Lib.hid f5;
       have H5 := Lib.hid h5'; have K5 := Lib.hid k5;
       clear h5 f5 h5' k5 H3 K3)
    | (refine wpList_load_agg rfl 31 _ rfl g rfl (x.setA A' n' c').vals ?hy _ HU.out rfl (sizeR _) ?_; (case hy => exact H5.out))
    | (refine wpList_store_agg rfl 31 _ _ rfl (g + 1) RK.zero.vals (x.setA A' n' c').vals rfl rfl ?hz rfl (sizeR _) (RK.ones_vals _) ?_; (case hz => exact K5.out); intro w6 h6 f6 t6))
  refine bodyPost_ret (v := .tuple #[.agg (aggV (x.setA A' n' c').vals), .bool (decide (z ∈ zs))]) (results_agg1 Try.results29 rfl (loadR h6) rfl) rfl ⟨A', n', c', rfl, ?_, ?_⟩
  · have o6 := O5.out.frm f6 (fun j hj cs hc => by rw [show j = g + 1 from hj, K5.out] at hc; cases hc)
    exact o6.mono (by omega)
  · have := t2
    subst hg
    exact (B3.out.trans (F5.out.below (by have := B3.out.size; omega) (fun j hj e => by omega))).trans (f6.below (by have := B3.out.size; omega) (fun j hj e => by omega))
end Go.Proofs.Ytnmcnniilihecaa
