/- Layer 15: the document's Begin, Run, Fail, End. Written by wip/tools/gen_ref15c.py. -/
import Derived.Test.YtpfmjocpgnoepaaRef15
import Derived.Deep.DeepCutAuto
namespace Go.Proofs.Ytpfmjocpgnoepaa
set_option linter.unusedVariables false
open Go.ChangeShapes Go.WideShapes Go.ChangeAt Go.RowKit

set_option maxRecDepth 100000 in
set_option maxHeartbeats 2000000 in
theorem rbegin15_any (A : Option Addr) (n c : Nat) (M : Option Addr) (m d : Nat) (t : Int) (w : World) :
    Calls Try.prog 23 #[batV A n c M m d, .int .u64 t] w fun r w' => r = .returned (callV A n c M m d (CN.new t)) ∧ Below w.heap.size w w' := by
  obtain ⟨W, hW, hb, k0, k1, hsz⟩ := two_new w (bobj 25 A n c M m d) (vobj 28 (kvals none 0 0 none 0 0 ⟨0, 0, 0, 0⟩))
  have HW : Hid ((w.alloc (.cells #[.slice A n c, .slice M m d] 25)).alloc (.cells #[.slice none 0 0, .slice none 0 0, .int .i64 0, .int .i64 0, .int .i64 0, .int .u64 0] 28) = W) := Lib.hid hW
  obtain ⟨q0, q1⟩ := bobj_cells k0
  have B0 := Lib.hid hb
  have K1 : Hid (((w.alloc (.cells #[.slice A n c, .slice M m d] 25)).alloc (.cells #[.slice none 0 0, .slice none 0 0, .int .i64 0, .int .i64 0, .int .i64 0, .int .u64 0] 28)).heap[w.heap.size + 1]? = some (vobj 28 (kvals none 0 0 none 0 0 ⟨0, 0, 0, 0⟩))) := Lib.hid (by rw [HW.out]; exact k1)
  have SZ := Lib.hid hsz
  clear hW hb k0 k1 hsz
  go_enter Try.func23, Try.ntmps23
  go_wp2_with (first
    | (refine wpList_store_agg rfl 28 _ _ rfl (w.heap.size + 1) (kvals none 0 0 none 0 0 ⟨0, 0, 0, 0⟩) (kvals A n c M m d (CN.new t)) rfl rfl ?hz rfl sizeRK (onesK _ _ _ _ _ _ _) ?_; (case hz => exact K1.out); rw [HW.out]; intro w9 k9 f9 _; have K9 := Lib.hid k9; have F9 := Lib.hid f9; clear k9 f9))
  refine bodyPost_ret (v := callV A n c M m d (CN.new t)) (results_agg Try.results23 rfl (loadRK K9.out rfl)) rfl ?_
  exact ⟨rfl, B0.out.trans (F9.out.below B0.out.size (fun j hj e => by omega))⟩

set_option maxRecDepth 100000 in
set_option maxHeartbeats 2000000 in
theorem rrun15_any (A : Option Addr) (n c : Nat) (M : Option Addr) (m d : Nat) (K : CN) (w : World) :
    Calls Try.prog 16 #[callV A n c M m d K] w fun r w' => r = .returned (.tuple #[callV A n c M m d K.run, .bool K.runs]) ∧ Below w.heap.size w w' := by
  obtain ⟨W, hW, hb, k0, k1, hsz⟩ := two_new w (vobj 28 (kvals A n c M m d K)) (vobj 28 (kvals none 0 0 none 0 0 ⟨0, 0, 0, 0⟩))
  have HW : Hid ((w.alloc (.cells #[.slice A n c, .slice M m d, .int .i64 K.st, .int .i64 K.sp, .int .i64 K.ca, .int .u64 K.tm] 28)).alloc (.cells #[.slice none 0 0, .slice none 0 0, .int .i64 0, .int .i64 0, .int .i64 0, .int .u64 0] 28) = W) := Lib.hid hW
  have p2 : W.cell? ⟨w.heap.size, 2, none⟩ = some (.int .i64 K.st) := vobj_cell k0 rfl
  have p3 : W.cell? ⟨w.heap.size, 3, none⟩ = some (.int .i64 K.sp) := vobj_cell k0 rfl
  have B0 := Lib.hid hb
  have K5 := Lib.hid k0
  have Z5 := Lib.hid k1
  have SZ := Lib.hid hsz
  obtain ⟨fs, hu⟩ := undRK
  have HU := Lib.hid hu
  clear hW hb k0 k1 hsz hu
  by_cases hs : K.st = 1
  · have e1 : (K.st != 1) = false := by simp [hs]
    rw [show K.run = ⟨2, K.sp, K.ca, K.tm⟩ by simp [CN.run, hs], show K.runs = true by simp [CN.runs, hs]]
    clear hs
    go_enter Try.func16, Try.ntmps16
    go_upto_region 1 with fail
    rw [HW.out]
    go_wp2_with (first
      | (refine wpList_store_one rfl 3 _ _ rfl w.heap.size 2 28 (kvals A n c M m d K) (.int .i64 2) rfl rfl ?hz (by show 2 < 6; decide) size1i rfl rfl ?_; (case hz => exact K5.out); intro w6 k6 f6 _;
         have K6 : Hid (w6.heap[w.heap.size]? = some (vobj 28 (kvals A n c M m d ⟨2, K.sp, K.ca, K.tm⟩))) := Lib.hid k6; have F6 := Lib.hid f6; have Z6 := Lib.hid ((f6.block (w.heap.size + 1) (heap_lt Z5.out) (by show ¬ w.heap.size + 1 = w.heap.size; omega)).trans Z5.out);
         have p3 : w6.cell? ⟨w.heap.size, 3, none⟩ = some (.int .i64 K.sp) := vobj_cell K6.out rfl; clear k6 f6)
      | (refine wpList_load_agg rfl 28 _ rfl w.heap.size rfl (kvals A n c M m d ⟨2, K.sp, K.ca, K.tm⟩) ?hz _ HU.out rfl sizeRK ?_; (case hz => exact K6.out))
      | (refine wpList_store_agg rfl 28 _ _ rfl (w.heap.size + 1) (kvals none 0 0 none 0 0 ⟨0, 0, 0, 0⟩) (kvals A n c M m d ⟨2, K.sp, K.ca, K.tm⟩) rfl rfl ?hz rfl sizeRK (onesK _ _ _ _ _ _ _) ?_; (case hz => exact Z6.out); intro w9 k9 f9 _; have K9 := Lib.hid k9; have F9 := Lib.hid f9; clear k9 f9))
    refine bodyPost_ret (v := .tuple #[callV A n c M m d ⟨2, K.sp, K.ca, K.tm⟩, .bool true]) (results_agg1 Try.results16 rfl (loadRK K9.out rfl) rfl) rfl ?_
    have fs : Frm (· = w.heap.size) W w6 := (Frm.refl (· = w.heap.size) W).trans F6.out (fun _ _ e => e)
    exact ⟨rfl, (B0.out.trans (fs.below B0.out.size (fun j hj e => by omega))).trans (F9.out.below (by have := fs.size; have := B0.out.size; omega) (fun j hj e => by omega))⟩
  · have e1 : (K.st != 1) = true := by simp [hs]
    rw [show K.run = K by simp [CN.run, hs], show K.runs = false by simp [CN.runs, hs]]
    clear hs
    go_enter Try.func16, Try.ntmps16
    go_upto_region 1 with fail
    rw [HW.out]
    go_wp2_with (first
      | (refine wpList_load_agg rfl 28 _ rfl w.heap.size rfl (kvals A n c M m d K) ?hz _ HU.out rfl sizeRK ?_; (case hz => exact K5.out))
      | (refine wpList_store_agg rfl 28 _ _ rfl (w.heap.size + 1) (kvals none 0 0 none 0 0 ⟨0, 0, 0, 0⟩) (kvals A n c M m d K) rfl rfl ?hz rfl sizeRK (onesK _ _ _ _ _ _ _) ?_; (case hz => exact Z5.out); intro w9 k9 f9 _; have K9 := Lib.hid k9; have F9 := Lib.hid f9; clear k9 f9))
    refine bodyPost_ret (v := .tuple #[callV A n c M m d K, .bool false]) (results_agg1 Try.results16 rfl (loadRK K9.out rfl) rfl) rfl ?_
    have fs : Frm (· = w.heap.size) W W := Frm.refl (· = w.heap.size) W
    exact ⟨rfl, (B0.out.trans (fs.below B0.out.size (fun j hj e => by omega))).trans (F9.out.below (by have := fs.size; have := B0.out.size; omega) (fun j hj e => by omega))⟩

set_option maxRecDepth 100000 in
set_option maxHeartbeats 2000000 in
theorem rend15_any (A : Option Addr) (n c : Nat) (M : Option Addr) (m d : Nat) (K : CN) (w : World) :
    Calls Try.prog 20 #[callV A n c M m d K] w fun r w' => r = .returned (.tuple #[callV A n c M m d K.fin, .bool K.ends]) ∧ Below w.heap.size w w' := by
  obtain ⟨W, hW, hb, k0, k1, hsz⟩ := two_new w (vobj 28 (kvals A n c M m d K)) (vobj 28 (kvals none 0 0 none 0 0 ⟨0, 0, 0, 0⟩))
  have HW : Hid ((w.alloc (.cells #[.slice A n c, .slice M m d, .int .i64 K.st, .int .i64 K.sp, .int .i64 K.ca, .int .u64 K.tm] 28)).alloc (.cells #[.slice none 0 0, .slice none 0 0, .int .i64 0, .int .i64 0, .int .i64 0, .int .u64 0] 28) = W) := Lib.hid hW
  have p2 : W.cell? ⟨w.heap.size, 2, none⟩ = some (.int .i64 K.st) := vobj_cell k0 rfl
  have p3 : W.cell? ⟨w.heap.size, 3, none⟩ = some (.int .i64 K.sp) := vobj_cell k0 rfl
  have B0 := Lib.hid hb
  have K5 := Lib.hid k0
  have Z5 := Lib.hid k1
  have SZ := Lib.hid hsz
  obtain ⟨fs, hu⟩ := undRK
  have HU := Lib.hid hu
  clear hW hb k0 k1 hsz hu
  by_cases hs : 1 ≤ K.st ∧ K.st ≤ 3
  · have e1 : ¬ K.st < 1 := by omega
    have e2 : ¬ (3 : Int) < K.st := by omega
    rw [show K.fin = ⟨4, K.sp, K.ca, K.tm⟩ by simp [CN.fin, hs], show K.ends = true by simp [CN.ends, hs]]
    clear hs
    go_enter Try.func20, Try.ntmps20
    go_upto_region 1 with fail
    rw [HW.out]
    go_wp2_with (first
      | (refine wpList_store_one rfl 3 _ _ rfl w.heap.size 2 28 (kvals A n c M m d K) (.int .i64 4) rfl rfl ?hz (by show 2 < 6; decide) size1i rfl rfl ?_; (case hz => exact K5.out); intro w6 k6 f6 _;
         have K6 : Hid (w6.heap[w.heap.size]? = some (vobj 28 (kvals A n c M m d ⟨4, K.sp, K.ca, K.tm⟩))) := Lib.hid k6; have F6 := Lib.hid f6; have Z6 := Lib.hid ((f6.block (w.heap.size + 1) (heap_lt Z5.out) (by show ¬ w.heap.size + 1 = w.heap.size; omega)).trans Z5.out);
         have p3 : w6.cell? ⟨w.heap.size, 3, none⟩ = some (.int .i64 K.sp) := vobj_cell K6.out rfl; clear k6 f6)
      | (refine wpList_load_agg rfl 28 _ rfl w.heap.size rfl (kvals A n c M m d ⟨4, K.sp, K.ca, K.tm⟩) ?hz _ HU.out rfl sizeRK ?_; (case hz => exact K6.out))
      | (refine wpList_store_agg rfl 28 _ _ rfl (w.heap.size + 1) (kvals none 0 0 none 0 0 ⟨0, 0, 0, 0⟩) (kvals A n c M m d ⟨4, K.sp, K.ca, K.tm⟩) rfl rfl ?hz rfl sizeRK (onesK _ _ _ _ _ _ _) ?_; (case hz => exact Z6.out); intro w9 k9 f9 _; have K9 := Lib.hid k9; have F9 := Lib.hid f9; clear k9 f9))
    refine bodyPost_ret (v := .tuple #[callV A n c M m d ⟨4, K.sp, K.ca, K.tm⟩, .bool true]) (results_agg1 Try.results20 rfl (loadRK K9.out rfl) rfl) rfl ?_
    have fs : Frm (· = w.heap.size) W w6 := (Frm.refl (· = w.heap.size) W).trans F6.out (fun _ _ e => e)
    exact ⟨rfl, (B0.out.trans (fs.below B0.out.size (fun j hj e => by omega))).trans (F9.out.below (by have := fs.size; have := B0.out.size; omega) (fun j hj e => by omega))⟩
  · rw [show K.fin = K by simp only [CN.fin, if_neg hs], show K.ends = false by simp only [CN.ends, decide_eq_false hs]]
    by_cases e1 : K.st < 1
    · clear hs
      go_enter Try.func20, Try.ntmps20
      go_upto_region 1 with fail
      rw [HW.out]
      go_wp2_with (first
        | (refine wpList_load_agg rfl 28 _ rfl w.heap.size rfl (kvals A n c M m d K) ?hz _ HU.out rfl sizeRK ?_; (case hz => exact K5.out))
        | (refine wpList_store_agg rfl 28 _ _ rfl (w.heap.size + 1) (kvals none 0 0 none 0 0 ⟨0, 0, 0, 0⟩) (kvals A n c M m d K) rfl rfl ?hz rfl sizeRK (onesK _ _ _ _ _ _ _) ?_; (case hz => exact Z5.out); intro w9 k9 f9 _; have K9 := Lib.hid k9; have F9 := Lib.hid f9; clear k9 f9))
      refine bodyPost_ret (v := .tuple #[callV A n c M m d K, .bool false]) (results_agg1 Try.results20 rfl (loadRK K9.out rfl) rfl) rfl ?_
      have fs : Frm (· = w.heap.size) W W := Frm.refl (· = w.heap.size) W
      exact ⟨rfl, (B0.out.trans (fs.below B0.out.size (fun j hj e => by omega))).trans (F9.out.below (by have := fs.size; have := B0.out.size; omega) (fun j hj e => by omega))⟩
    · have e2 : (3 : Int) < K.st := by omega
      clear hs
      go_enter Try.func20, Try.ntmps20
      go_upto_region 1 with fail
      rw [HW.out]
      go_wp2_with (first
        | (refine wpList_load_agg rfl 28 _ rfl w.heap.size rfl (kvals A n c M m d K) ?hz _ HU.out rfl sizeRK ?_; (case hz => exact K5.out))
        | (refine wpList_store_agg rfl 28 _ _ rfl (w.heap.size + 1) (kvals none 0 0 none 0 0 ⟨0, 0, 0, 0⟩) (kvals A n c M m d K) rfl rfl ?hz rfl sizeRK (onesK _ _ _ _ _ _ _) ?_; (case hz => exact Z5.out); intro w9 k9 f9 _; have K9 := Lib.hid k9; have F9 := Lib.hid f9; clear k9 f9))
      refine bodyPost_ret (v := .tuple #[callV A n c M m d K, .bool false]) (results_agg1 Try.results20 rfl (loadRK K9.out rfl) rfl) rfl ?_
      have fs : Frm (· = w.heap.size) W W := Frm.refl (· = w.heap.size) W
      exact ⟨rfl, (B0.out.trans (fs.below B0.out.size (fun j hj e => by omega))).trans (F9.out.below (by have := fs.size; have := B0.out.size; omega) (fun j hj e => by omega))⟩

set_option maxRecDepth 100000 in
set_option maxHeartbeats 2000000 in
theorem rfail15_any (A : Option Addr) (n c : Nat) (M : Option Addr) (m d : Nat) (K : CN) (z k : Int) (w : World) (hsp : wf64 K.sp) (hk : wf64 k) :
    Calls Try.prog 18 #[callV A n c M m d K, .int .i64 z, .int .i64 k] w fun r w' => r = .returned (.tuple #[callV A n c M m d (K.fail z k), .bool (K.fails k)]) ∧ Below w.heap.size w w' := by
  obtain ⟨W, hW, hb, k0, k1, hsz⟩ := two_new w (vobj 28 (kvals A n c M m d K)) (vobj 28 (kvals none 0 0 none 0 0 ⟨0, 0, 0, 0⟩))
  have HW : Hid ((w.alloc (.cells #[.slice A n c, .slice M m d, .int .i64 K.st, .int .i64 K.sp, .int .i64 K.ca, .int .u64 K.tm] 28)).alloc (.cells #[.slice none 0 0, .slice none 0 0, .int .i64 0, .int .i64 0, .int .i64 0, .int .u64 0] 28) = W) := Lib.hid hW
  have p2 : W.cell? ⟨w.heap.size, 2, none⟩ = some (.int .i64 K.st) := vobj_cell k0 rfl
  have p3 : W.cell? ⟨w.heap.size, 3, none⟩ = some (.int .i64 K.sp) := vobj_cell k0 rfl
  have B0 := Lib.hid hb
  have K5 := Lib.hid k0
  have Z5 := Lib.hid k1
  have SZ := Lib.hid hsz
  obtain ⟨fs, hu⟩ := undRK
  have HU := Lib.hid hu
  clear hW hb k0 k1 hsz hu
  by_cases hs : 1 ≤ K.st ∧ K.st ≤ 3
  · have e1 : ¬ K.st < 1 := by omega
    have e2 : ¬ (3 : Int) < K.st := by omega
    by_cases he3 : K.st = 3
    · have e3 : ¬ K.st < (3 : Int) := by omega
      by_cases hc : K.sp < k
      · have e5 : ¬ k ≤ K.sp := by omega
        have e6 : IntKind.i64.wrap (K.sp + 1) = K.sp + 1 := wrap_next hsp hk hc
        rw [show K.fail z k = ⟨3, K.sp + 1, K.ca, K.tm⟩ by simp only [CN.fail, if_pos hs, if_pos hc, CN.why, if_pos he3], show K.fails k = true by simp only [CN.fails, hs, hc, and_self, decide_true]]
        clear hs hc hsp hk he3
        go_enter Try.func18, Try.ntmps18
        go_upto_region 1 with fail
        rw [HW.out]
        go_wp2_with (first
          | (refine wpList_store_one rfl 3 _ _ rfl w.heap.size 2 28 (kvals A n c M m d K) (.int .i64 3) rfl rfl ?hz (by show 2 < 6; decide) size1i rfl rfl ?_; (case hz => exact K5.out); intro w6 k6 f6 _;
             have K6 : Hid (w6.heap[w.heap.size]? = some (vobj 28 (kvals A n c M m d ⟨3, K.sp, K.ca, K.tm⟩))) := Lib.hid k6; have F6 := Lib.hid f6; have Z6 := Lib.hid ((f6.block (w.heap.size + 1) (heap_lt Z5.out) (by show ¬ w.heap.size + 1 = w.heap.size; omega)).trans Z5.out);
             have p3 : w6.cell? ⟨w.heap.size, 3, none⟩ = some (.int .i64 K.sp) := vobj_cell K6.out rfl; clear k6 f6)
          | (refine wpList_store_one rfl 3 _ _ rfl w.heap.size 3 28 (kvals A n c M m d ⟨3, K.sp, K.ca, K.tm⟩) (.int .i64 (K.sp + 1)) rfl rfl ?hz (by show 3 < 6; decide) size1i rfl rfl ?_; (case hz => exact K6.out); intro w7 k7 f7 _;
             have K7 : Hid (w7.heap[w.heap.size]? = some (vobj 28 (kvals A n c M m d ⟨3, K.sp + 1, K.ca, K.tm⟩))) := Lib.hid k7; have F7 := Lib.hid f7; have Z7 := Lib.hid ((f7.block (w.heap.size + 1) (heap_lt Z6.out) (by show ¬ w.heap.size + 1 = w.heap.size; omega)).trans Z6.out);
             clear k7 f7)
          | (refine wpList_load_agg rfl 28 _ rfl w.heap.size rfl (kvals A n c M m d ⟨3, K.sp + 1, K.ca, K.tm⟩) ?hz _ HU.out rfl sizeRK ?_; (case hz => exact K7.out))
          | (refine wpList_store_agg rfl 28 _ _ rfl (w.heap.size + 1) (kvals none 0 0 none 0 0 ⟨0, 0, 0, 0⟩) (kvals A n c M m d ⟨3, K.sp + 1, K.ca, K.tm⟩) rfl rfl ?hz rfl sizeRK (onesK _ _ _ _ _ _ _) ?_; (case hz => exact Z7.out); intro w9 k9 f9 _; have K9 := Lib.hid k9; have F9 := Lib.hid f9; clear k9 f9))
        refine bodyPost_ret (v := .tuple #[callV A n c M m d ⟨3, K.sp + 1, K.ca, K.tm⟩, .bool true]) (results_agg1 Try.results18 rfl (loadRK K9.out rfl) rfl) rfl ?_
        have fs : Frm (· = w.heap.size) W w7 := ((Frm.refl (· = w.heap.size) W).trans F6.out (fun _ _ e => e)).trans F7.out (fun _ _ e => e)
        exact ⟨rfl, (B0.out.trans (fs.below B0.out.size (fun j hj e => by omega))).trans (F9.out.below (by have := fs.size; have := B0.out.size; omega) (fun j hj e => by omega))⟩
      · have e5 : k ≤ K.sp := by omega
        rw [show K.fail z k = ⟨4, K.sp, K.ca, K.tm⟩ by simp only [CN.fail, if_pos hs, if_neg hc, CN.why, if_pos he3], show K.fails k = false by simp only [CN.fails, hc, and_false, decide_false]]
        clear hs hc hsp hk he3
        go_enter Try.func18, Try.ntmps18
        go_upto_region 1 with fail
        rw [HW.out]
        go_wp2_with (first
          | (refine wpList_store_one rfl 3 _ _ rfl w.heap.size 2 28 (kvals A n c M m d K) (.int .i64 4) rfl rfl ?hz (by show 2 < 6; decide) size1i rfl rfl ?_; (case hz => exact K5.out); intro w6 k6 f6 _;
             have K6 : Hid (w6.heap[w.heap.size]? = some (vobj 28 (kvals A n c M m d ⟨4, K.sp, K.ca, K.tm⟩))) := Lib.hid k6; have F6 := Lib.hid f6; have Z6 := Lib.hid ((f6.block (w.heap.size + 1) (heap_lt Z5.out) (by show ¬ w.heap.size + 1 = w.heap.size; omega)).trans Z5.out);
             have p3 : w6.cell? ⟨w.heap.size, 3, none⟩ = some (.int .i64 K.sp) := vobj_cell K6.out rfl; clear k6 f6)
          | (refine wpList_load_agg rfl 28 _ rfl w.heap.size rfl (kvals A n c M m d ⟨4, K.sp, K.ca, K.tm⟩) ?hz _ HU.out rfl sizeRK ?_; (case hz => exact K6.out))
          | (refine wpList_store_agg rfl 28 _ _ rfl (w.heap.size + 1) (kvals none 0 0 none 0 0 ⟨0, 0, 0, 0⟩) (kvals A n c M m d ⟨4, K.sp, K.ca, K.tm⟩) rfl rfl ?hz rfl sizeRK (onesK _ _ _ _ _ _ _) ?_; (case hz => exact Z6.out); intro w9 k9 f9 _; have K9 := Lib.hid k9; have F9 := Lib.hid f9; clear k9 f9))
        refine bodyPost_ret (v := .tuple #[callV A n c M m d ⟨4, K.sp, K.ca, K.tm⟩, .bool false]) (results_agg1 Try.results18 rfl (loadRK K9.out rfl) rfl) rfl ?_
        have fs : Frm (· = w.heap.size) W w6 := (Frm.refl (· = w.heap.size) W).trans F6.out (fun _ _ e => e)
        exact ⟨rfl, (B0.out.trans (fs.below B0.out.size (fun j hj e => by omega))).trans (F9.out.below (by have := fs.size; have := B0.out.size; omega) (fun j hj e => by omega))⟩
    · have e3 : K.st < (3 : Int) := by omega
      by_cases hc : K.sp < k
      · have e5 : ¬ k ≤ K.sp := by omega
        have e6 : IntKind.i64.wrap (K.sp + 1) = K.sp + 1 := wrap_next hsp hk hc
        rw [show K.fail z k = ⟨3, K.sp + 1, z, K.tm⟩ by simp only [CN.fail, if_pos hs, if_pos hc, CN.why, if_neg he3], show K.fails k = true by simp only [CN.fails, hs, hc, and_self, decide_true]]
        clear hs hc hsp hk he3
        go_enter Try.func18, Try.ntmps18
        go_upto_region 1 with fail
        rw [HW.out]
        go_wp2_with (first
          | (refine wpList_store_one rfl 3 _ _ rfl w.heap.size 4 28 (kvals A n c M m d K) (.int .i64 z) rfl rfl ?hz (by show 4 < 6; decide) size1i rfl rfl ?_; (case hz => exact K5.out); intro w6 k6 f6 _;
             have K6 : Hid (w6.heap[w.heap.size]? = some (vobj 28 (kvals A n c M m d ⟨K.st, K.sp, z, K.tm⟩))) := Lib.hid k6; have F6 := Lib.hid f6; have Z6 := Lib.hid ((f6.block (w.heap.size + 1) (heap_lt Z5.out) (by show ¬ w.heap.size + 1 = w.heap.size; omega)).trans Z5.out);
             have p3 : w6.cell? ⟨w.heap.size, 3, none⟩ = some (.int .i64 K.sp) := vobj_cell K6.out rfl; clear k6 f6)
          | (refine wpList_store_one rfl 3 _ _ rfl w.heap.size 2 28 (kvals A n c M m d ⟨K.st, K.sp, z, K.tm⟩) (.int .i64 3) rfl rfl ?hz (by show 2 < 6; decide) size1i rfl rfl ?_; (case hz => exact K6.out); intro w7 k7 f7 _;
             have K7 : Hid (w7.heap[w.heap.size]? = some (vobj 28 (kvals A n c M m d ⟨3, K.sp, z, K.tm⟩))) := Lib.hid k7; have F7 := Lib.hid f7; have Z7 := Lib.hid ((f7.block (w.heap.size + 1) (heap_lt Z6.out) (by show ¬ w.heap.size + 1 = w.heap.size; omega)).trans Z6.out);
             have p3 : w7.cell? ⟨w.heap.size, 3, none⟩ = some (.int .i64 K.sp) := vobj_cell K7.out rfl; clear k7 f7)
          | (refine wpList_store_one rfl 3 _ _ rfl w.heap.size 3 28 (kvals A n c M m d ⟨3, K.sp, z, K.tm⟩) (.int .i64 (K.sp + 1)) rfl rfl ?hz (by show 3 < 6; decide) size1i rfl rfl ?_; (case hz => exact K7.out); intro w8 k8 f8 _;
             have K8 : Hid (w8.heap[w.heap.size]? = some (vobj 28 (kvals A n c M m d ⟨3, K.sp + 1, z, K.tm⟩))) := Lib.hid k8; have F8 := Lib.hid f8; have Z8 := Lib.hid ((f8.block (w.heap.size + 1) (heap_lt Z7.out) (by show ¬ w.heap.size + 1 = w.heap.size; omega)).trans Z7.out);
             clear k8 f8)
          | (refine wpList_load_agg rfl 28 _ rfl w.heap.size rfl (kvals A n c M m d ⟨3, K.sp + 1, z, K.tm⟩) ?hz _ HU.out rfl sizeRK ?_; (case hz => exact K8.out))
          | (refine wpList_store_agg rfl 28 _ _ rfl (w.heap.size + 1) (kvals none 0 0 none 0 0 ⟨0, 0, 0, 0⟩) (kvals A n c M m d ⟨3, K.sp + 1, z, K.tm⟩) rfl rfl ?hz rfl sizeRK (onesK _ _ _ _ _ _ _) ?_; (case hz => exact Z8.out); intro w9 k9 f9 _; have K9 := Lib.hid k9; have F9 := Lib.hid f9; clear k9 f9))
        refine bodyPost_ret (v := .tuple #[callV A n c M m d ⟨3, K.sp + 1, z, K.tm⟩, .bool true]) (results_agg1 Try.results18 rfl (loadRK K9.out rfl) rfl) rfl ?_
        have fs : Frm (· = w.heap.size) W w8 := (((Frm.refl (· = w.heap.size) W).trans F6.out (fun _ _ e => e)).trans F7.out (fun _ _ e => e)).trans F8.out (fun _ _ e => e)
        exact ⟨rfl, (B0.out.trans (fs.below B0.out.size (fun j hj e => by omega))).trans (F9.out.below (by have := fs.size; have := B0.out.size; omega) (fun j hj e => by omega))⟩
      · have e5 : k ≤ K.sp := by omega
        rw [show K.fail z k = ⟨4, K.sp, z, K.tm⟩ by simp only [CN.fail, if_pos hs, if_neg hc, CN.why, if_neg he3], show K.fails k = false by simp only [CN.fails, hc, and_false, decide_false]]
        clear hs hc hsp hk he3
        go_enter Try.func18, Try.ntmps18
        go_upto_region 1 with fail
        rw [HW.out]
        go_wp2_with (first
          | (refine wpList_store_one rfl 3 _ _ rfl w.heap.size 4 28 (kvals A n c M m d K) (.int .i64 z) rfl rfl ?hz (by show 4 < 6; decide) size1i rfl rfl ?_; (case hz => exact K5.out); intro w6 k6 f6 _;
             have K6 : Hid (w6.heap[w.heap.size]? = some (vobj 28 (kvals A n c M m d ⟨K.st, K.sp, z, K.tm⟩))) := Lib.hid k6; have F6 := Lib.hid f6; have Z6 := Lib.hid ((f6.block (w.heap.size + 1) (heap_lt Z5.out) (by show ¬ w.heap.size + 1 = w.heap.size; omega)).trans Z5.out);
             have p3 : w6.cell? ⟨w.heap.size, 3, none⟩ = some (.int .i64 K.sp) := vobj_cell K6.out rfl; clear k6 f6)
          | (refine wpList_store_one rfl 3 _ _ rfl w.heap.size 2 28 (kvals A n c M m d ⟨K.st, K.sp, z, K.tm⟩) (.int .i64 4) rfl rfl ?hz (by show 2 < 6; decide) size1i rfl rfl ?_; (case hz => exact K6.out); intro w7 k7 f7 _;
             have K7 : Hid (w7.heap[w.heap.size]? = some (vobj 28 (kvals A n c M m d ⟨4, K.sp, z, K.tm⟩))) := Lib.hid k7; have F7 := Lib.hid f7; have Z7 := Lib.hid ((f7.block (w.heap.size + 1) (heap_lt Z6.out) (by show ¬ w.heap.size + 1 = w.heap.size; omega)).trans Z6.out);
             have p3 : w7.cell? ⟨w.heap.size, 3, none⟩ = some (.int .i64 K.sp) := vobj_cell K7.out rfl; clear k7 f7)
          | (refine wpList_load_agg rfl 28 _ rfl w.heap.size rfl (kvals A n c M m d ⟨4, K.sp, z, K.tm⟩) ?hz _ HU.out rfl sizeRK ?_; (case hz => exact K7.out))
          | (refine wpList_store_agg rfl 28 _ _ rfl (w.heap.size + 1) (kvals none 0 0 none 0 0 ⟨0, 0, 0, 0⟩) (kvals A n c M m d ⟨4, K.sp, z, K.tm⟩) rfl rfl ?hz rfl sizeRK (onesK _ _ _ _ _ _ _) ?_; (case hz => exact Z7.out); intro w9 k9 f9 _; have K9 := Lib.hid k9; have F9 := Lib.hid f9; clear k9 f9))
        refine bodyPost_ret (v := .tuple #[callV A n c M m d ⟨4, K.sp, z, K.tm⟩, .bool false]) (results_agg1 Try.results18 rfl (loadRK K9.out rfl) rfl) rfl ?_
        have fs : Frm (· = w.heap.size) W w7 := ((Frm.refl (· = w.heap.size) W).trans F6.out (fun _ _ e => e)).trans F7.out (fun _ _ e => e)
        exact ⟨rfl, (B0.out.trans (fs.below B0.out.size (fun j hj e => by omega))).trans (F9.out.below (by have := fs.size; have := B0.out.size; omega) (fun j hj e => by omega))⟩
  · rw [show K.fail z k = K by simp only [CN.fail, if_neg hs], show K.fails k = false by simp only [CN.fails, hs, false_and, decide_false]]
    clear hsp hk
    by_cases e1 : K.st < 1
    · clear hs
      go_enter Try.func18, Try.ntmps18
      go_upto_region 1 with fail
      rw [HW.out]
      go_wp2_with (first
        | (refine wpList_load_agg rfl 28 _ rfl w.heap.size rfl (kvals A n c M m d K) ?hz _ HU.out rfl sizeRK ?_; (case hz => exact K5.out))
        | (refine wpList_store_agg rfl 28 _ _ rfl (w.heap.size + 1) (kvals none 0 0 none 0 0 ⟨0, 0, 0, 0⟩) (kvals A n c M m d K) rfl rfl ?hz rfl sizeRK (onesK _ _ _ _ _ _ _) ?_; (case hz => exact Z5.out); intro w9 k9 f9 _; have K9 := Lib.hid k9; have F9 := Lib.hid f9; clear k9 f9))
      refine bodyPost_ret (v := .tuple #[callV A n c M m d K, .bool false]) (results_agg1 Try.results18 rfl (loadRK K9.out rfl) rfl) rfl ?_
      have fs : Frm (· = w.heap.size) W W := Frm.refl (· = w.heap.size) W
      exact ⟨rfl, (B0.out.trans (fs.below B0.out.size (fun j hj e => by omega))).trans (F9.out.below (by have := fs.size; have := B0.out.size; omega) (fun j hj e => by omega))⟩
    · have e2 : (3 : Int) < K.st := by omega
      clear hs
      go_enter Try.func18, Try.ntmps18
      go_upto_region 1 with fail
      rw [HW.out]
      go_wp2_with (first
        | (refine wpList_load_agg rfl 28 _ rfl w.heap.size rfl (kvals A n c M m d K) ?hz _ HU.out rfl sizeRK ?_; (case hz => exact K5.out))
        | (refine wpList_store_agg rfl 28 _ _ rfl (w.heap.size + 1) (kvals none 0 0 none 0 0 ⟨0, 0, 0, 0⟩) (kvals A n c M m d K) rfl rfl ?hz rfl sizeRK (onesK _ _ _ _ _ _ _) ?_; (case hz => exact Z5.out); intro w9 k9 f9 _; have K9 := Lib.hid k9; have F9 := Lib.hid f9; clear k9 f9))
      refine bodyPost_ret (v := .tuple #[callV A n c M m d K, .bool false]) (results_agg1 Try.results18 rfl (loadRK K9.out rfl) rfl) rfl ?_
      have fs : Frm (· = w.heap.size) W W := Frm.refl (· = w.heap.size) W
      exact ⟨rfl, (B0.out.trans (fs.below B0.out.size (fun j hj e => by omega))).trans (F9.out.below (by have := fs.size; have := B0.out.size; omega) (fun j hj e => by omega))⟩
end Go.Proofs.Ytpfmjocpgnoepaa
