/- Layer 14: the document's Expire. Written by wip/tools/gen_ref14b.py. -/
import Derived.Test.YtpfmjocpgnoepaaRef14
import Derived.Test.YtpfmjocpgnoepaaHand
import Derived.Deep.DeepCutAuto
namespace Go.Proofs.Ytpfmjocpgnoepaa
set_option linter.unusedVariables false
open Go.ChangeShapes Go.WideShapes Go.ChangeAt Go.RowKit

set_option maxRecDepth 100000 in
set_option maxHeartbeats 2000000 in
theorem rexp_no (W T : Int) (o : Bool) (E : Int) (A : Option Addr) (n c : Nat) (M : Option Addr) (m d : Nat) (now : Int) (w : World) (hx : (o && decide (E ≤ now)) = false) :
    Calls Try.prog 50 #[rcV W T o E A n c M m d, .int .u64 now] w fun r w' => r = .returned (.tuple #[rcV W T o E A n c M m d, batV none 0 0 none 0 0, .bool false]) ∧ Below w.heap.size w w' := by
  obtain ⟨X, hX, bX, k0, k1, k2, sX⟩ := three_new w (rcobj W T o E A n c M m d) (rcobj 0 0 false 0 none 0 0 none 0 0) (bobj 25 none 0 0 none 0 0)
  have HX : Hid (((w.alloc (.cells #[.int .u64 W, .int .i64 T, .bool o, .int .u64 E, .slice A n c, .slice M m d] 86)).alloc (.cells #[.int .u64 0, .int .i64 0, .bool false, .int .u64 0, .slice none 0 0, .slice none 0 0] 86)).alloc (.cells #[.slice none 0 0, .slice none 0 0] 25) = X) := Lib.hid hX
  have BX := Lib.hid bX
  have K0 := Lib.hid k0
  have K1 := Lib.hid k1
  have K2 := Lib.hid k2
  have q2 : X.cell? ⟨w.heap.size, 2, none⟩ = some (.bool o) := vobj_cell k0 rfl
  have q3 : X.cell? ⟨w.heap.size, 3, none⟩ = some (.int .u64 E) := vobj_cell k0 rfl
  obtain ⟨fs, hu⟩ := undRC
  have HU := Lib.hid hu
  clear hX bX k0 k1 k2 sX hu
  have hc : o = false ∨ (o = true ∧ now < E) := by
    cases o with
    | false => exact .inl rfl
    | true => rw [Bool.true_and] at hx; have := of_decide_eq_false hx; exact .inr ⟨rfl, by omega⟩
  clear hx
  rcases hc with rfl | ⟨rfl, hn⟩
  · go_enter Try.func50, Try.ntmps50
    go_upto_region 1 with fail
    rw [HX.out]
    go_wp2_with (first
      | (refine wpList_load_agg rfl 86 _ rfl w.heap.size rfl (rvals W T false E A n c M m d) ?hz _ HU.out rfl sizeRC ?_; (case hz => exact K0.out))
      | (refine wpList_store_agg rfl 86 _ _ rfl (w.heap.size + 1) (rvals 0 0 false 0 none 0 0 none 0 0) (rvals W T false E A n c M m d) rfl rfl ?hz rfl sizeRC (onesRC _ _ _ _ _ _ _ _ _ _) ?_; (case hz => exact K1.out); intro w5 k5 f5 _;
         have K5 := Lib.hid k5; have F5 := Lib.hid f5; have K2' := Lib.hid ((f5.block (w.heap.size + 1 + 1) (heap_lt K2.out) (by show ¬ w.heap.size + 1 + 1 = w.heap.size + 1; omega)).trans K2.out); clear k5 f5)
      | (refine wpList_store_agg rfl 25 _ _ rfl (w.heap.size + 1 + 1) [.slice none 0 0, .slice none 0 0] [.slice none 0 0, .slice none 0 0] rfl rfl ?hz rfl sizeR (onesB _ _ _ _ _ _) ?_; (case hz => exact K2'.out); intro w6 k6 f6 _;
         have K6 := Lib.hid k6; have F6 := Lib.hid f6; clear k6 f6))
    have K5' := (F6.out.block (w.heap.size + 1) (heap_lt K5.out) (by show ¬ w.heap.size + 1 = w.heap.size + 1 + 1; omega)).trans K5.out
    refine bodyPost_ret (v := .tuple #[rcV W T false E A n c M m d, batV none 0 0 none 0 0, .bool false]) (results_aggs3 Try.results50 rfl (loadRC K5' rfl) rfl (loadR K6.out) rfl) rfl ?_
    exact ⟨rfl, (BX.out.trans (F5.out.below BX.out.size (fun j hj e => by omega))).trans (F6.out.below (by have := BX.out.size; have := F5.out.size; omega) (fun j hj e => by omega))⟩
  · go_enter Try.func50, Try.ntmps50
    go_upto_region 1 with fail
    rw [HX.out]
    go_wp2_with (first
      | (refine wpList_load_agg rfl 86 _ rfl w.heap.size rfl (rvals W T true E A n c M m d) ?hz _ HU.out rfl sizeRC ?_; (case hz => exact K0.out))
      | (refine wpList_store_agg rfl 86 _ _ rfl (w.heap.size + 1) (rvals 0 0 false 0 none 0 0 none 0 0) (rvals W T true E A n c M m d) rfl rfl ?hz rfl sizeRC (onesRC _ _ _ _ _ _ _ _ _ _) ?_; (case hz => exact K1.out); intro w5 k5 f5 _;
         have K5 := Lib.hid k5; have F5 := Lib.hid f5; have K2' := Lib.hid ((f5.block (w.heap.size + 1 + 1) (heap_lt K2.out) (by show ¬ w.heap.size + 1 + 1 = w.heap.size + 1; omega)).trans K2.out); clear k5 f5)
      | (refine wpList_store_agg rfl 25 _ _ rfl (w.heap.size + 1 + 1) [.slice none 0 0, .slice none 0 0] [.slice none 0 0, .slice none 0 0] rfl rfl ?hz rfl sizeR (onesB _ _ _ _ _ _) ?_; (case hz => exact K2'.out); intro w6 k6 f6 _;
         have K6 := Lib.hid k6; have F6 := Lib.hid f6; clear k6 f6))
    have K5' := (F6.out.block (w.heap.size + 1) (heap_lt K5.out) (by show ¬ w.heap.size + 1 = w.heap.size + 1 + 1; omega)).trans K5.out
    refine bodyPost_ret (v := .tuple #[rcV W T true E A n c M m d, batV none 0 0 none 0 0, .bool false]) (results_aggs3 Try.results50 rfl (loadRC K5' rfl) rfl (loadR K6.out) rfl) rfl ?_
    exact ⟨rfl, (BX.out.trans (F5.out.below BX.out.size (fun j hj e => by omega))).trans (F6.out.below (by have := BX.out.size; have := F5.out.size; omega) (fun j hj e => by omega))⟩
set_option maxRecDepth 100000 in
set_option maxHeartbeats 2000000 in
theorem rexp_yes (W T : Int) (E : Int) (A : Option Addr) (n c : Nat) (M : Option Addr) (m d : Nat) (zs : List Int) (ms : List P2) (now : Int) (w : World) (hx : E ≤ now) (hb : Bat w A n c M m d zs ms) :
    Calls Try.prog 50 #[rcV W T true E A n c M m d, .int .u64 now] w fun r w' => r = .returned (.tuple #[rcV W T false E none 0 0 none 0 0, batV A n c M m d, .bool true]) ∧ Below w.heap.size w w' := by
  obtain ⟨X, hX, bX, k0, k1, k2, sX⟩ := three_new w (rcobj W T true E A n c M m d) (rcobj 0 0 false 0 none 0 0 none 0 0) (bobj 25 none 0 0 none 0 0)
  have HX : Hid (((w.alloc (.cells #[.int .u64 W, .int .i64 T, .bool true, .int .u64 E, .slice A n c, .slice M m d] 86)).alloc (.cells #[.int .u64 0, .int .i64 0, .bool false, .int .u64 0, .slice none 0 0, .slice none 0 0] 86)).alloc (.cells #[.slice none 0 0, .slice none 0 0] 25) = X) := Lib.hid hX
  have BX := Lib.hid bX
  have K0 := Lib.hid k0
  have K1 := Lib.hid k1
  have K2 := Lib.hid k2
  have SX := Lib.hid sX
  have q2 : X.cell? ⟨w.heap.size, 2, none⟩ = some (.bool true) := vobj_cell k0 rfl
  have q3 : X.cell? ⟨w.heap.size, 3, none⟩ = some (.int .u64 E) := vobj_cell k0 rfl
  have q4 : X.cell? ⟨w.heap.size, 4, none⟩ = some (.slice A n c) := vobj_cell k0 rfl
  have q5 : X.cell? ⟨w.heap.size, 5, none⟩ = some (.slice M m d) := vobj_cell k0 rfl
  have hn : ¬ now < E := by omega
  clear hX bX k0 k1 k2 sX hx hb
  go_enter Try.func50, Try.ntmps50
  go_upto_region 1 with fail
  rw [HX.out]
  go_upto_region 4 with fail
  have Y0 := Lib.hid (kb_alloc K0.out (.cells #[.slice A n c, .slice M m d] 25))
  have Y1 := Lib.hid (kb_alloc K1.out (.cells #[.slice A n c, .slice M m d] 25))
  have Y2 := Lib.hid (kb_alloc K2.out (.cells #[.slice A n c, .slice M m d] 25))
  have Y3 : Hid ((X.alloc (.cells #[.slice A n c, .slice M m d] 25)).heap[X.heap.size]? = some (bobj 25 A n c M m d)) := Lib.hid (heap_alloc_at X _)
  have BY := Lib.hid (BX.out.trans ((below_alloc X (.cells #[.slice A n c, .slice M m d] 25)).mono BX.out.size))
  generalize X.alloc (.cells #[.slice A n c, .slice M m d] 25) = Y at *
  clear q2 q3 q4 q5 K0 K1 K2 HX BX hn
  go_wp2_with (first
    | (refine wpList_store_one rfl 4 _ _ rfl w.heap.size 2 86 (rvals W T true E A n c M m d) (.bool false) rfl rfl ?hz (by show 2 < 6; decide) size1b rfl rfl ?_; (case hz => exact Y0.out); intro w5 k5 f5 _; have K5 : Hid (w5.heap[w.heap.size]? = some (rcobj W T false E A n c M m d)) := Lib.hid k5; have F5 := Lib.hid f5; clear k5 f5)
    | (refine wpList_store_part rfl 25 _ _ rfl w.heap.size 4 86 (rvals W T false E A n c M m d) [.slice none 0 0, .slice none 0 0] rfl rfl ?hz (by show 4 + 2 ≤ 6; decide) sizeR (onesB _ _ _ _ _ _) ?_; (case hz => exact K5.out); intro w6 k6 f6 _; have K6 : Hid (w6.heap[w.heap.size]? = some (rcobj W T false E none 0 0 none 0 0)) := Lib.hid k6; have F6 := Lib.hid f6; clear k6 f6))
  have F56 : Frm (· = w.heap.size) Y w6.drew := (F5.out.trans F6.out (fun _ _ e => e)).ali (drew_ali _)
  have k0 : w6.drew.heap[w.heap.size]? = some (rcobj W T false E none 0 0 none 0 0) := K6.out
  have K4 : Hid (w6.drew.heap[w.heap.size + 1]? = some (rcobj 0 0 false 0 none 0 0 none 0 0)) := Lib.hid ((F56.block _ (heap_lt Y1.out) (by show ¬ w.heap.size + 1 = w.heap.size; omega)).trans Y1.out)
  have K5b : Hid (w6.drew.heap[w.heap.size + 1 + 1]? = some (bobj 25 none 0 0 none 0 0)) := Lib.hid ((F56.block _ (heap_lt Y2.out) (by show ¬ w.heap.size + 1 + 1 = w.heap.size; omega)).trans Y2.out)
  have k3 : w6.drew.heap[X.heap.size]? = some (bobj 25 A n c M m d) := (F56.block _ (heap_lt Y3.out) (by show ¬ X.heap.size = w.heap.size; have := SX.out; omega)).trans Y3.out
  have B6 := Lib.hid (BY.out.trans (F56.below BY.out.size (fun j hj e => by omega)))
  have HS : Hid (∀ wx, Frm (fun j => j = w.heap.size + 1 ∨ j = w.heap.size + 1 + 1) w6.drew wx → wx.cell? ⟨w.heap.size, 0, none⟩ = some (.int .u64 W) ∧ wx.cell? ⟨w.heap.size, 1, none⟩ = some (.int .i64 T) ∧ wx.cell? ⟨w.heap.size, 2, none⟩ = some (.bool false) ∧ wx.cell? ⟨w.heap.size, 3, none⟩ = some (.int .u64 E) ∧ wx.cell? ⟨w.heap.size, 4, none⟩ = some (.slice none 0 0) ∧ wx.cell? ⟨w.heap.size, 5, none⟩ = some (.slice none 0 0) ∧ wx.cell? ⟨X.heap.size, 0, none⟩ = some (.slice A n c) ∧ wx.cell? ⟨X.heap.size, 1, none⟩ = some (.slice M m d)) := Lib.hid (fun wx hf => by
    have a0 := (hf.block w.heap.size (heap_lt k0) (by show ¬ (w.heap.size = w.heap.size + 1 ∨ w.heap.size = w.heap.size + 1 + 1); omega)).trans k0
    have a3 := (hf.block X.heap.size (heap_lt k3) (by have := SX.out; show ¬ (X.heap.size = w.heap.size + 1 ∨ X.heap.size = w.heap.size + 1 + 1); omega)).trans k3
    obtain ⟨e0, e1⟩ := bobj_cells a3
    exact ⟨vobj_cell a0 rfl, vobj_cell a0 rfl, vobj_cell a0 rfl, vobj_cell a0 rfl, vobj_cell a0 rfl, vobj_cell a0 rfl, e0, e1⟩)
  clear K5 K6 F5 F6 F56 k0 k3 Y0 Y1 Y2 Y3 BY
  have K5 := K5b
  clear K5b
  refine wp_region_held_drew (S := fun wx => wx.cell? ⟨w.heap.size, 0, none⟩ = some (.int .u64 W) ∧ wx.cell? ⟨w.heap.size, 1, none⟩ = some (.int .i64 T) ∧ wx.cell? ⟨w.heap.size, 2, none⟩ = some (.bool false) ∧ wx.cell? ⟨w.heap.size, 3, none⟩ = some (.int .u64 E) ∧ wx.cell? ⟨w.heap.size, 4, none⟩ = some (.slice none 0 0) ∧ wx.cell? ⟨w.heap.size, 5, none⟩ = some (.slice none 0 0) ∧ wx.cell? ⟨X.heap.size, 0, none⟩ = some (.slice A n c) ∧ wx.cell? ⟨X.heap.size, 1, none⟩ = some (.slice M m d)) (by kernel_rfl) (HS.out _ (Frm.refl _ _)) (fun hHeld => ?_)
  generalize w6.drew = wd at *
  refine wpAnyH_take (i := 0) (oi := ⟨_, _, _, _, _, _⟩) (v := ?_) rfl (by kernel_rfl) (by kernel_rfl) (by kernel_rfl) (fun _ _ _ h => h) (Or.inl ⟨by rfl, ?_⟩) (by assumption) ?_
  rotate_left
  · intro w hSw; (try dsimp only at hSw); go_simp; try (with_reducible rfl)
  try go_frame
  refine wpAnyH_take (i := 1) (oi := ⟨_, _, _, _, _, _⟩) (v := ?_) rfl (by kernel_rfl) (by kernel_rfl) (by kernel_rfl) (fun _ _ _ h => h) (Or.inl ⟨by rfl, ?_⟩) (by assumption) ?_
  rotate_left
  · intro w hSw; (try dsimp only at hSw); go_simp; try (with_reducible rfl)
  try go_frame
  refine wpAnyH_ready (rs := [2]) (by kernel_rfl) (by simp) ?_
  refine ready_cons (i := 2) (o := ⟨_, _, _, _, _, _⟩) rfl ?_ AllReadyH.nil
  intro K hK
  refine store_step rfl 86 _ _ rfl (w.heap.size + 1) 0 86 (rvals 0 0 false 0 none 0 0 none 0 0) (rvals W T false E none 0 0 none 0 0) rfl rfl K4.out (Nat.le_refl _) sizeRC (onesRC _ _ _ _ _ _ _ _ _ _) ?_
  intro w8 k8 f8 _
  have K8 : Hid (w8.heap[w.heap.size + 1]? = some (rcobj W T false E none 0 0 none 0 0)) := Lib.hid k8
  have F8 := Lib.hid f8
  have K5' := Lib.hid ((f8.block (w.heap.size + 1 + 1) (heap_lt K5.out) (by show ¬ w.heap.size + 1 + 1 = w.heap.size + 1; omega)).trans K5.out)
  refine hK.out _ _ (HS.out _ (f8.mono (F' := fun j => j = w.heap.size + 1 ∨ j = w.heap.size + 1 + 1) (fun j _ e => Or.inl e))) (fun hHeld => ?_)
  clear hK K k8 f8
  try go_frame
  refine wpAnyH_ready (rs := [3]) (by kernel_rfl) (by simp) ?_
  refine ready_cons (i := 3) (o := ⟨_, _, _, _, _, _⟩) rfl ?_ AllReadyH.nil
  intro K hK
  refine store_step rfl 25 _ _ rfl (w.heap.size + 1 + 1) 0 25 [.slice none 0 0, .slice none 0 0] [.slice A n c, .slice M m d] rfl rfl K5'.out (Nat.le_refl _) sizeR (onesB _ _ _ _ _ _) ?_
  intro w9 k9 f9 _
  have K9 : Hid (w9.heap[w.heap.size + 1 + 1]? = some (bobj 25 A n c M m d)) := Lib.hid k9
  have F9 := Lib.hid f9
  refine hK.out _ _ (HS.out _ ((F8.out.mono (F' := fun j => j = w.heap.size + 1 ∨ j = w.heap.size + 1 + 1) (fun j _ e => Or.inl e)).trans (f9.mono (F' := fun j => j = w.heap.size + 1 ∨ j = w.heap.size + 1 + 1) (fun j _ e => Or.inr e)) (fun _ _ e => e))) (fun hHeld => ?_)
  clear hK K k9 f9
  try go_frame
  refine wpAnyH_take (i := 4) (oi := ⟨_, _, _, _, _, _⟩) (v := ?_) rfl (by kernel_rfl) (by kernel_rfl) (by kernel_rfl) (fun _ _ _ h => h) (Or.inl ⟨by rfl, ?_⟩) (by assumption) ?_
  rotate_left
  · intro w hSw; (try dsimp only at hSw); go_simp; try (with_reducible rfl)
  try go_frame
  refine wpAnyH_done (by kernel_rfl) ?_ _
  go_wp2
  have K8' := (F9.out.block (w.heap.size + 1) (heap_lt K8.out) (by show ¬ w.heap.size + 1 = w.heap.size + 1 + 1; omega)).trans K8.out
  refine bodyPost_ret (v := .tuple #[rcV W T false E none 0 0 none 0 0, batV A n c M m d, .bool true]) (results_aggs3 Try.results50 rfl (loadRC K8' rfl) rfl (loadR K9.out) rfl) rfl ?_
  exact ⟨rfl, (B6.out.trans (F8.out.below B6.out.size (fun j hj e => by omega))).trans (F9.out.below (by have := B6.out.size; have := F8.out.size; omega) (fun j hj e => by omega))⟩
end Go.Proofs.Ytpfmjocpgnoepaa
