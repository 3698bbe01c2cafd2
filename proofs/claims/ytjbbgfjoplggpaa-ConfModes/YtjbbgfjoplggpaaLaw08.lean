/- Layer 8: the examples' check. -/
import Derived.Test.YtjbbgfjoplggpaaConfDo
import Derived.Test.YtjbbgfjoplggpaaLater
import Derived.Test.YtjbbgfjoplggpaaSame
namespace Go.Proofs.Ytjbbgfjoplggpaa
set_option linter.unusedVariables false
open Go.ChangeShapes Go.WideShapes Go.ChangeAt Go.RowKit

theorem sameC {c : Cnf} (h : c.Fits) (w : World) : (Op.equalIn 10000 24 (.agg (aggV c.vals)) (.agg (aggV c.vals))).run Try.prog w = .ok true w :=
  same_yes (P := Try.prog) (t := 24) 8 (by decide) (by kernel_rfl) (by kernel_rfl) (by kernel_rfl) (by kernel_rfl) (flat_vals h) w
theorem sameF {c : Cnf} (h : c.Fit64) (w : World) : (Op.equalIn 10000 30 (.agg (aggV c.nums)) (.agg (aggV c.nums))).run Try.prog w = .ok true w :=
  same_yes (P := Try.prog) (t := 30) 8 (by decide) (by kernel_rfl) (by kernel_rfl) (by kernel_rfl) (by kernel_rfl) (flat_nums h) w
theorem zeroC (w : World) : (zeroValue 24).run Try.prog w = .ok (.agg (aggV Cnf.zero.vals)) w := by kernel_rfl

def poolC : Cnf := ⟨1, 2, 1, 0, 1, 2, 10, 5, 4, 50, 20, 2, 10, 0, 0, 0⟩
def poolN : Cnf := ⟨1, 0, 1, 0, 1, 2, 10, 5, 4, 50, 20, 2, 10, 0, 0, 0⟩
theorem poolC_fits : poolC.Fits := by constructor <;> decide
theorem poolN_fits : poolN.Fits := by constructor <;> decide
set_option maxRecDepth 100000 in
set_option maxHeartbeats 1000000 in
theorem pool_any (w : World) : Calls Try.prog 18 #[] w fun r w' => r = .returned (.agg (aggV poolC.vals)) ∧ Below w.heap.size w w' := by
  obtain ⟨g, hg⟩ : ∃ g, w.heap.size = g := ⟨_, rfl⟩
  go_enter Try.func18, Try.ntmps18
  go_wp2_with (first
    | (refine wpList_alloc_agg rfl 24 rfl g hg Cnf.zero.vals (allocC _) ?_; intro w1 h1 l1 s1)
    | (refine wpList_build_agg rfl 24 _ rfl poolC.vals ?hb ?_; (case hb => kernel_rfl))
    | (refine wpList_store_agg rfl 24 _ _ rfl g Cnf.zero.vals poolC.vals rfl rfl h1 rfl (sizeC _) (Cnf.ones_vals _) ?_; intro w2 h2 f2 s2))
  refine bodyPost_ret (v := .agg (aggV poolC.vals)) (results_agg Try.results18 rfl (loadC h2)) rfl ⟨rfl, ?_⟩
  subst hg
  exact l1.trans (f2.below (by omega) (fun j hj e => by omega))

set_option maxRecDepth 100000 in
set_option maxHeartbeats 1000000 in
theorem awake_any (w : World) : Calls Try.prog 9 #[] w fun r w' => r = .returned (.bool true) ∧ Below w.heap.size w w' := by
  obtain ⟨fs, hu⟩ := undC
  have HU := Lib.hid hu
  clear hu
  have hck := fun v => check_any poolC v poolC_fits 0 (by decide +kernel)
  have hck2 := fun v => check_any poolN v poolN_fits 2 (by decide +kernel)
  have htk := fun v => take_any poolC.put v (Cnf.put_fits poolC_fits) 0 (by decide +kernel)
  have hpu := fun v => put_any poolC v
  have hbo := fun v => bound_any poolC v poolC_fits
  rw [show poolC.bound = 21 by decide +kernel] at hbo
  rw [if_pos rfl, Cnf.take_put poolC_fits] at htk
  have hz0 : Cnf.errOf 0 = 0 := rfl
  have hz2 : Cnf.errOf 2 = 1 := rfl
  rw [hz0] at hck htk
  rw [hz2] at hck2
  have HZ := Lib.hid (sizeC poolC)
  have HZ2 := Lib.hid (sizeC poolN)
  have H1 := Lib.hid hck
  have H2 := Lib.hid hck2
  have H3 := Lib.hid htk
  have H4 := Lib.hid hpu
  have H5 := Lib.hid hbo
  have H6 := Lib.hid pool_any
  have hsame := fun v => sameC poolC_fits v
  have HCE : Hid (poolC.vals[1]? = some (.int .i64 2)) := Lib.hid rfl
  have HST : Hid (poolC.vals.set 1 (.int .i64 0) = poolN.vals) := Lib.hid rfl
  have HLN : Hid (Cnf.zero.vals.length = poolC.vals.length) := Lib.hid rfl
  have HON := Lib.hid (Cnf.ones_vals poolC)
  have HLC : Hid (∀ (v : World) (g : Nat), v.heap[g]? = some (vobj 24 poolC.vals) → (loadVar 24 ⟨g, 0, none⟩).run Try.prog v = .ok (.agg (aggV poolC.vals)) v) := Lib.hid (fun v g h => loadC h)
  clear hck hck2 htk hpu hbo hz0 hz2
  generalize poolC.vals = cv at *
  generalize poolN.vals = nv at *
  generalize poolC.put.nums = pn at *
  go_enter Try.func9, Try.ntmps9
  go_wp2_with (first
    | (go_at_call 18; refine (H6.out _).mono ?_; rintro r w1 ⟨rfl, b1⟩; obtain ⟨g, hg⟩ : ∃ g, w1.heap.size = g := ⟨_, rfl⟩)
    | (refine wpList_alloc_agg rfl 24 rfl g hg Cnf.zero.vals (allocC _) ?_; intro w2 h2 l2 s2)
    | (refine wpList_store_agg rfl 24 _ _ rfl g Cnf.zero.vals cv rfl rfl h2 HLN.out HZ.out HON.out ?_; intro w3 hb f3 s3;
       have LO := Lib.hid ((b1.trans (l2.mono (by have := b1.size; omega))).trans (f3.below (by have := b1.size; omega : w.heap.size ≤ w2.heap.size) (fun j hj e => by have := b1.size; omega)));
       have hwg := b1.size; rw [hg] at hwg; clear h2 b1 l2 f3 s3 s2 hg)
    | (refine wpList_load_agg rfl 24 _ rfl g rfl cv hb _ HU.out rfl HZ.out ?_)
    | (go_at_call 10; refine (H2.out (w7.setCell ⟨g, 1, none⟩ (.int .i64 0))).mono ?_; rintro r w9 ⟨rfl, b9⟩;
       have LO9 := Lib.hid (LO8.out.trans (b9.mono LO8.out.size)); have hd9 := kb_below hd8 b9; clear b9 hd8 LO8 hb8)
    | (go_at_call 10; refine (H1.out _).mono ?_; rintro r w4 ⟨rfl, b4⟩; replace hb := kb_below hb b4; replace LO := Lib.hid (LO.out.trans (b4.mono LO.out.size)); clear b4)
    | (go_at_call 12; refine (H4.out _).mono ?_; rintro r w5 ⟨rfl, b5⟩; replace hb := kb_below hb b5; replace LO := Lib.hid (LO.out.trans (b5.mono LO.out.size)); clear b5)
    | (go_at_call 16; refine (H3.out _).mono ?_; rintro r w6 ⟨rfl, b6⟩; replace hb := kb_below hb b6; replace LO := Lib.hid (LO.out.trans (b6.mono LO.out.size)); clear b6; obtain ⟨g6, hg6⟩ : ∃ g, w6.heap.size = g := ⟨_, rfl⟩)
    | (refine wpList_alloc_agg rfl 24 rfl g6 hg6 Cnf.zero.vals (allocC _) ?_; intro w61 h61 l61 s61)
    | (refine wpList_store_agg rfl 24 _ _ rfl g6 Cnf.zero.vals cv rfl rfl h61 HLN.out HZ.out HON.out ?_; intro w7 hd f7 s7;
       have hne : g ≠ g6 := (by have := heap_lt hb; omega);
       have hb7 := ((f7.block g (by have := heap_lt hb; omega) hne).trans (l61.block g (by have := heap_lt hb; omega))).trans hb;
       have LO7 := Lib.hid ((LO.out.trans (l61.mono (by have := LO.out.size; omega))).trans (f7.below (by have := LO.out.size; omega : w.heap.size ≤ w61.heap.size) (fun j hj e => by have := LO.out.size; omega)));
       have c1 : w7.cell? ⟨g, 1, none⟩ = some (.int .i64 2) := vobj_cell hb7 HCE.out;
       have z1 := vobj_frozen hb7 1;
       have hb8 := vobj_set hb7 1 (.int .i64 0);
       rw [HST.out] at hb8;
       have hd8 := (heap_set_other (w := w7) (p := ⟨g, 1, none⟩) (k := g6) (fun e => hne e.symm) (.int .i64 0)).trans hd;
       have LO8 := Lib.hid (LO7.out.setCell (p := ⟨g, 1, none⟩) hwg (.int .i64 0));
       clear hb hd hb7 LO LO7 f7 s7 l61 s61 h61 hg6)
    | (refine wpList_load_agg rfl 24 _ rfl g rfl nv hb8 _ HU.out rfl HZ2.out ?_))
  have hld : ∀ p : Later w9, (Instr.loadAt 24 (.pointer (some ⟨g6, 0, none⟩))).run Try.prog p.v = .ok (.agg (aggV cv)) p.v := fun p => run_loadAt_agg _ _ _ _ _ (p.heap hd9) HU.out rfl HZ.out
  refine wp_region_later (by kernel_rfl) (by kernel_rfl) ?_
  repeat (first
    | (refine wpQuiet_load rfl 24 _ rfl g6 rfl (.agg (aggV cv)) hld ?_; simp only [Act.put, List.setIfInBounds_toArray, List.set_cons_zero, List.set_cons_succ])
    | go_big_quiet_step (first | (go_at_call 18; exact Calls.later_of (H6.out _)) | (go_at_call 14; exact Calls.later_of (H5.out _))))
  refine wpQuiet_nil ?_
  rintro _ ⟨⟨w10, b10⟩, rfl⟩
  go_wp2
  go_ret
  exact ⟨rfl, LO9.out.trans (b10.mono LO9.out.size)⟩
end Go.Proofs.Ytjbbgfjoplggpaa
