/- What is proved: ConfModes of porpoiselaw08 answers true for every input, and leaves its arguments as they were; conditions: those of the given row alone. -/
import Derived.Test.YtjbbgfjoplggpaaKit
import Derived.Test.YtjbbgfjoplggpaaLaw08
namespace Go.Proofs.Ytjbbgfjoplggpaa.confModes
open Go.ChangeShapes Go.WideShapes Go.ChangeAt Go.RowKit Go.Deep
open Go.ChangeMaps (open_string shut_string)
set_option linter.unusedVariables false

theorem own : ownKnob Try.prog.godebug = none := by kernel_rfl
theorem laidOut : laidOutB Try.prog = true := by kernel_rfl



set_option maxRecDepth 100000 in
set_option maxHeartbeats 2000000 in
theorem walk (w : World) (c0 : Array Value) (w0 : Flat [.int .i64, .int .i64, .int .i64, .int .i64, .int .i64, .int .i64, .int .u64, .int .u64, .int .i64, .int .i64, .int .u64, .int .i64, .int .u64, .int .u64, .int .i64, .int .i64] c0.toList) :
    Calls Try.prog 8 #[.agg c0] w fun e w' => e = .returned (.bool true) ∧ Below w.heap.size w w' := by
  obtain ⟨c, rfl, hc⟩ := cnf_flat w0
  obtain ⟨g, hg⟩ : ∃ g, w.heap.size = g := ⟨_, rfl⟩
  obtain ⟨fs, hu⟩ := undC
  obtain ⟨n, hn⟩ : ∃ n, c.bad = n := ⟨_, rfl⟩
  have HU := Lib.hid hu
  have HZ := Lib.hid (sizeC c)
  have HK := Lib.hid (fun v => check_any c v hc n hn)
  have HC : Hid (∀ (v : World) (ty : TypeId), v.heap[g]? = some (vobj ty c.vals) → v.cell? ⟨g, 0, none⟩ = some (.int .i64 c.mode) ∧ v.cell? ⟨g, 1, none⟩ = some (.int .i64 c.pool) ∧ v.cell? ⟨g, 2, none⟩ = some (.int .i64 c.queue) ∧ v.cell? ⟨g, 3, none⟩ = some (.int .i64 c.sem) ∧ v.cell? ⟨g, 6, none⟩ = some (.int .u64 c.timeout) ∧ v.cell? ⟨g, 12, none⟩ = some (.int .u64 c.width) ∧ v.cell? ⟨g, 13, none⟩ = some (.int .u64 c.window) ∧ v.cell? ⟨g, 14, none⟩ = some (.int .i64 c.batch)) :=
    Lib.hid (fun v ty hv => ⟨vobj_cell hv rfl, vobj_cell hv rfl, vobj_cell hv rfl, vobj_cell hv rfl, vobj_cell hv rfl, vobj_cell hv rfl, vobj_cell hv rfl, vobj_cell hv rfl⟩)
  have HM : Hid (n = 0 → c.May) := Lib.hid (fun h => Cnf.may_of (by rw [hn, h]))
  clear hu hn w0
  by_cases h0 : n = 0
  · subst h0
    have hm := HM.out rfl
    rw [show Cnf.errOf 0 = 0 from rfl] at HK
    have e1 := hm.mode
    have e2 := hm.pool
    have e3 := hm.queue
    have e4 := hm.sem
    have e5 := hm.timeout
    have e6 := hm.width
    have e7 := hm.window
    have e8 := hm.batch
    generalize c.vals = n0 at *
    generalize c.mode = z0 at *
    generalize c.pool = z1 at *
    generalize c.queue = z2 at *
    generalize c.sem = z3 at *
    generalize c.timeout = z6 at *
    generalize c.width = z12 at *
    generalize c.window = z13 at *
    generalize c.batch = z14 at *
    clear hm HM
    have cs : (z0 = 1 ∧ 1 ≤ z1 ∧ z3 = 0) ∨ (z0 = 2 ∧ z1 = 0 ∧ z2 = 0 ∧ 1 ≤ z3) := by
      obtain rfl | rfl : z0 = 1 ∨ z0 = 2 := by omega
      · simp at e2 e4; omega
      · simp at e2 e3 e4; omega
    have cw : (z13 = 0 ∧ z14 = 0) ∨ ((z13 == 0) = false ∧ (z14 == 0) = false) := by
      by_cases h : 0 < z13
      · rw [if_pos h] at e8; simp; omega
      · rw [if_neg h] at e8; omega
    clear e1 e2 e3 e4 e7 e8
    rcases cs with ⟨rfl, f1, rfl⟩ | ⟨rfl, rfl, rfl, f1⟩ <;> rcases cw with ⟨rfl, rfl⟩ | ⟨f2, f3⟩
    all_goals
      go_enter Try.func8, Try.ntmps8
      go_wp2_with (refine wpList_box_agg rfl 24 _ rfl g hg n0 rfl ?_; intro w1 h1 l1 s1)
      refine (awake_any _).mono ?_
      rintro r w2 ⟨rfl, b2⟩
      have h2 := kb_below h1 b2
      have B2 := Lib.hid (l1.trans (b2.mono (by omega : g ≤ w1.heap.size)))
      clear b2 h1 l1 s1
      go_wp2_with (refine wpList_load_agg rfl 24 _ rfl g rfl n0 h2 _ HU.out rfl HZ.out ?_)
      refine (HK.out _).mono ?_
      rintro r w3 ⟨rfl, b3⟩
      have B3 := Lib.hid (B2.out.trans (b3.mono (by have := B2.out.size; omega)))
      obtain ⟨c0, c1, c2, c3, c6, c12, c13, c14⟩ := HC.out _ _ (kb_below h2 b3)
      clear b3 h2 B2 HC HK HU HZ
      go_wp2
      go_ret
      refine ⟨ret_bool ?_, by subst hg; exact B3.out⟩
      simp
      try omega
  · have he : Cnf.errOf n = 1 := by unfold Cnf.errOf; rw [if_neg h0]
    rw [he] at HK
    generalize c.vals = n0 at *
    clear HC HM
    go_enter Try.func8, Try.ntmps8
    go_wp2_with (first
      | (refine wpList_box_agg rfl 24 _ rfl g hg n0 rfl ?_; intro w1 h1 l1 s1)
      | (go_at_call 9; refine (awake_any _).mono ?_; rintro r w2 ⟨rfl, b2⟩; have h2 := kb_below h1 b2; have B2 := Lib.hid (l1.trans (b2.mono (by omega : g ≤ w1.heap.size))); clear b2 h1 l1)
      | (refine wpList_load_agg rfl 24 _ rfl g rfl n0 h2 _ HU.out rfl HZ.out ?_)
      | (go_at_call 10; refine (HK.out _).mono ?_; rintro r w3 ⟨rfl, b3⟩; have B3 := Lib.hid (B2.out.trans (b3.mono (by have := B2.out.size; omega))); clear b3 h2 B2))
    go_ret
    exact ⟨rfl, by subst hg; exact B3.out⟩

set_option maxRecDepth 100000 in
theorem lifted (os : Os) (started : os.Started) (H : Type) (enc : TypeId × Value → H) :
    ReturnsInHanded {} Try.checked os 8 .any (Rows.confModesSpec.pre6 enc Try.prog Try.f8 Rows.confModesRow.domain false) (Rows.confModesSpec.post enc Try.prog Try.f8 false true false false) := by
  refine returnsInHanded_of_change_sized (C := Try.checked) own started (by kernel_rfl) Try.func8
    (ChangeSpec.witness6 (enc := enc) (C := Try.checked) false ⟨#[], #[.agg #[.int .i64 0, .int .i64 0, .int .i64 0, .int .i64 0, .int .i64 0, .int .i64 0, .int .u64 0, .int .u64 0, .int .i64 0, .int .i64 0, .int .u64 0, .int .i64 0, .int .u64 0, .int .u64 0, .int .i64 0, .int .i64 0]], []⟩ 8 (by kernel_rfl) (by kernel_rfl) (by kernel_rfl) (by kernel_rfl)) ?_
  intro W base args ds gs before hval0 hW hcnd hsz0 _
  have hval : ∀ (j : Nat) t v, Try.f8.params[j]? = some t → args[j]? = some v → Value.okWide Try.prog W .any base t v := hval0
  have hsz : (DataW.weightsEach Try.prog (Try.f8.params.toList ++ Rows.confModesSpec.plain.varTypes Try.prog) (ds ++ gs)).all (· ≤ reachBytes) = true := hsz0
  have hW' := hW
  obtain ⟨p, q, hA0, hV, rfl, hfz, hnd⟩ := hW
  have hA : DataW.TrodAll enc Try.prog W 0 (fun _ => true) true Try.f8.params.toList args.toList ds p := hA0
  rw [Try.params8] at hA hval hsz
  have hAk := hA
  obtain ⟨v0, vs0, d0, ds0, p0, q0, hargs, rfl, rfl, h0, r0⟩ := trodAll_cons hA
  obtain ⟨rfl, rfl, rfl⟩ := trodAll_nil r0
  obtain rfl : args = #[v0] := by cases args; simp_all
  obtain ⟨rfl, rfl⟩ := trodVars_none hV
  obtain ⟨c0, rfl, w0⟩ := open_flat (ks := [.int .i64, .int .i64, .int .i64, .int .i64, .int .i64, .int .i64, .int .u64, .int .u64, .int .i64, .int .i64, .int .u64, .int .i64, .int .u64, .int .u64, .int .i64, .int .i64]) 8 (by kernel_rfl) (by kernel_rfl) (hval 0 24 v0 rfl rfl) h0
  clear hA0 hval0 hsz0
  refine (walk W c0 w0).mono fun e W' ⟨he, bel⟩ => ?_
  subst he
  exact ⟨_, rfl, _, _, _, [], _, [], hW', trodAll_mk1 (shut_bool Try.underlying4 _), trodAll_below laidOut bel _ _ _ _ (by kernel_rfl) hAk, rfl, bel.frame _, fun h => by cases h⟩

theorem over : Rows.confModesRow.holds Try.pinned (OpenSpec.ofChange Rows.confModesSpec) :=
  OpenClaim.holds_of_wide 8 Try.f8 rfl rfl rfl rfl rfl rfl rfl ⟨rfl, rfl, rfl, rfl, rfl⟩ rfl rfl rfl rfl rfl (by kernel_rfl) Try.func8 (by kernel_rfl)
    (of_decide_eq_true (by kernel_rfl)) (by unfold Func.isWrapper; first | (rw [if_pos (by decide +kernel)]; kernel_rfl) | (rw [if_neg (by decide +kernel)]; exact ⟨rfl, rfl⟩))
    (fun os started H enc _ => lifted os started H enc)

theorem proved : Rows.ConfModesSaid := over
#print axioms proved
end Go.Proofs.Ytjbbgfjoplggpaa.confModes
