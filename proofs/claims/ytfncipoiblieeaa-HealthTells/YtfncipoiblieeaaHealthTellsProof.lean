/- What is proved: HealthTells of porpoiselaw16 answers true for every input, and leaves its arguments as they were; conditions: those of the given row alone. -/
import Derived.Test.YtfncipoiblieeaaKit
import Derived.Test.YtfncipoiblieeaaLaw16
import Derived.Test.YtfncipoiblieeaaRef16
namespace Go.Proofs.Ytfncipoiblieeaa.healthTells
open Go.ChangeShapes Go.WideShapes Go.ChangeAt Go.RowKit Go.Deep
open Go.ChangeMaps (open_string shut_string)
set_option linter.unusedVariables false

theorem own : ownKnob Try.prog.godebug = none := by kernel_rfl
theorem laidOut : laidOutB Try.prog = true := by kernel_rfl



set_option maxRecDepth 100000 in
set_option maxHeartbeats 2000000 in
theorem walk (w : World) (c0 : Array Value) (w0 : Flat [.int .u64, .int .u64, .int .u64, .int .u64, .int .u64] c0.toList) (c1 : Array Value) (w1 : Flat [.int .i64, .int .i64, .int .i64, .int .i64, .int .i64, .int .i64, .int .u64, .int .u64, .int .i64, .int .i64, .int .u64, .int .i64, .int .u64, .int .u64, .int .i64, .int .i64] c1.toList) (a2 : Int) (w2 : (Lit.int .i64 a2).wf = true) :
    Calls Try.prog 3 #[.agg c0, .agg c1, .int .i64 a2] w fun e w' => e = .returned (.bool true) ∧ Below w.heap.size w w' := by
  obtain ⟨k, rfl, hk⟩ := k5_flat w0
  obtain ⟨f, rfl, hf⟩ := cnf_flat w1
  clear w0 w1
  obtain ⟨g, hg⟩ : ∃ g, w.heap.size = g := ⟨_, rfl⟩
  have HG := Lib.hid hg
  obtain ⟨fs, hu⟩ := undC
  have HU := Lib.hid hu
  clear hu
  have HSK := Lib.hid (sizeK5 k)
  have HSF := Lib.hid (sizeC f)
  have HE := Lib.hid (fun v => errors_any k v hk)
  have HR := Lib.hid (fun v => rerrors_any k v hk)
  have HV := Lib.hid (fun v => volume_any k v hk)
  have HRV := Lib.hid (fun v => rvolume_any k v hk)
  have HO := Lib.hid (fun v => opens_any k f v hk hf)
  have HRO := Lib.hid (fun v => ropens_any k f v hk hf)
  generalize k.opens f.volume f.percent = op at *
  generalize k.vol = vo at *
  generalize k.errs = er at *
  generalize k.vals = kv at *
  generalize f.vals = fv at *
  obtain ⟨n, hn⟩ : ∃ n, (if 1 ≤ a2 ∧ a2 ≤ 4 then a2 else 0) = n := ⟨_, rfl⟩
  obtain ⟨is, his⟩ : ∃ is, decide (1 ≤ a2 ∧ a2 ≤ 4) = is := ⟨_, rfl⟩
  have HK1 : Hid (∀ v, Calls Try.prog 10 #[.int .i64 a2] v fun r w' => r = .returned (.tuple #[.int .i64 n, .bool is]) ∧ w' = v) := Lib.hid (fun v => by rw [← hn, ← his]; exact kind_any a2 v)
  have HK2 : Hid (∀ v, Calls Try.prog 11 #[.int .i64 a2] v fun r w' => r = .returned (.tuple #[.int .i64 n, .bool is]) ∧ w' = v) := Lib.hid (fun v => by rw [← hn, ← his]; exact rkind_any a2 v)
  clear hn his hk hf
  go_enter Try.func3, Try.ntmps3
  go_wp2_with (first
    | (refine wpList_box_agg rfl 23 _ rfl g hg kv rfl ?_; intro w1 h1 b1 s1)
    | (refine wpList_box_agg rfl 25 _ rfl (g + 1) s1 fv rfl ?_; intro w2 h2 b2 s2; have h1' := kb_below h1 (b2.mono (by omega)); have B2 := Lib.hid (b1.trans (b2.mono (by omega : g ≤ g + 1))); clear b1 b2 h1 s1))
  refine (awake16_any _).mono ?_
  rintro r w3 ⟨rfl, b3⟩
  have h3 := kb_below h1' b3
  have h4 := kb_below h2 b3
  have B3 := Lib.hid (B2.out.trans (b3.mono (by have := B2.out.size; omega : g ≤ w2.heap.size)))
  clear b3 h1' h2 B2 s2
  go_wp2_with fail
  refine (HK1.out _).mono ?_
  rintro r wx ⟨rfl, hx⟩
  rw [hx]; clear hx wx
  go_wp2_with fail
  refine (HK2.out _).mono ?_
  rintro r wx ⟨rfl, hx⟩
  rw [hx]; clear hx wx
  have ld : ∀ p : Later w3, (Instr.loadAt 23 (.pointer (some ⟨g, 0, none⟩))).run Try.prog p.v = .ok (.agg (aggV kv)) p.v := fun p => run_loadAt_agg _ _ _ _ _ (p.heap h3) undK rfl HSK.out
  have lf : ∀ p : Later w3, (Instr.loadAt 25 (.pointer (some ⟨g + 1, 0, none⟩))).run Try.prog p.v = .ok (.agg (aggV fv)) p.v := fun p => run_loadAt_agg _ _ _ _ _ (p.heap h4) HU.out rfl HSF.out
  go_wp2
  refine wp_region_later (by kernel_rfl) (by kernel_rfl) ?_
  repeat (first
    | (refine wpQuiet_load rfl 23 _ rfl g rfl (.agg (aggV kv)) ld ?_; simp only [Act.put, List.setIfInBounds_toArray, List.set_cons_zero, List.set_cons_succ])
    | (refine wpQuiet_load rfl 25 _ rfl (g + 1) rfl (.agg (aggV fv)) lf ?_; simp only [Act.put, List.setIfInBounds_toArray, List.set_cons_zero, List.set_cons_succ])
    | go_big_quiet_step (first
        | (go_at_call 12; with_reducible exact Calls.later_of (HE.out _))
        | (go_at_call 13; with_reducible exact Calls.later_of (HR.out _))
        | (go_at_call 14; with_reducible exact Calls.later_of (HV.out _))
        | (go_at_call 15; with_reducible exact Calls.later_of (HRV.out _))
        | (go_at_call 16; with_reducible exact Calls.later_of (HO.out _))
        | (go_at_call 17; with_reducible exact Calls.later_of (HRO.out _))))
  refine wpQuiet_nil ?_
  rintro w4 ⟨⟨_, b4⟩, rfl⟩
  go_wp2
  go_ret
  refine ⟨rfl, ?_⟩
  try rw [HG.out]
  exact B3.out.trans (b4.mono (by have := B3.out.size; omega))

set_option maxRecDepth 100000 in
theorem lifted (os : Os) (started : os.Started) (H : Type) (enc : TypeId × Value → H) :
    ReturnsInHanded {} Try.checked os 3 .any (Rows.healthTellsSpec.pre6 enc Try.prog Try.f3 Rows.healthTellsRow.domain false) (Rows.healthTellsSpec.post enc Try.prog Try.f3 false true false false) := by
  refine returnsInHanded_of_change_sized (C := Try.checked) own started (by kernel_rfl) Try.func3
    (ChangeSpec.witness6 (enc := enc) (C := Try.checked) false ⟨#[], #[.agg #[.int .u64 0, .int .u64 0, .int .u64 0, .int .u64 0, .int .u64 0], .agg #[.int .i64 0, .int .i64 0, .int .i64 0, .int .i64 0, .int .i64 0, .int .i64 0, .int .u64 0, .int .u64 0, .int .i64 0, .int .i64 0, .int .u64 0, .int .i64 0, .int .u64 0, .int .u64 0, .int .i64 0, .int .i64 0], .int .i64 0], []⟩ 8 (by kernel_rfl) (by kernel_rfl) (by kernel_rfl) (by kernel_rfl)) ?_
  intro W base args ds gs before hval0 hW hcnd hsz0 _
  have hval : ∀ (j : Nat) t v, Try.f3.params[j]? = some t → args[j]? = some v → Value.okWide Try.prog W .any base t v := hval0
  have hsz : (DataW.weightsEach Try.prog (Try.f3.params.toList ++ Rows.healthTellsSpec.plain.varTypes Try.prog) (ds ++ gs)).all (· ≤ reachBytes) = true := hsz0
  have hW' := hW
  obtain ⟨p, q, hA0, hV, rfl, hfz, hnd⟩ := hW
  have hA : DataW.TrodAll enc Try.prog W 0 (fun _ => true) true Try.f3.params.toList args.toList ds p := hA0
  rw [Try.params3] at hA hval hsz
  have hAk := hA
  obtain ⟨v0, vs0, d0, ds0, p0, q0, hargs, rfl, rfl, h0, r0⟩ := trodAll_cons hA
  obtain ⟨v1, vs1, d1, ds1, p1, q1, rfl, rfl, rfl, h1, r1⟩ := trodAll_cons r0
  obtain ⟨v2, vs2, d2, ds2, p2, q2, rfl, rfl, rfl, h2, r2⟩ := trodAll_cons r1
  obtain ⟨rfl, rfl, rfl⟩ := trodAll_nil r2
  obtain rfl : args = #[v0, v1, v2] := by cases args; simp_all
  obtain ⟨rfl, rfl⟩ := trodVars_none hV
  obtain ⟨c0, rfl, w0⟩ := open_flat (ks := [.int .u64, .int .u64, .int .u64, .int .u64, .int .u64]) 8 (by kernel_rfl) (by kernel_rfl) (hval 0 23 v0 rfl rfl) h0
  obtain ⟨c1, rfl, w1⟩ := open_flat (ks := [.int .i64, .int .i64, .int .i64, .int .i64, .int .i64, .int .i64, .int .u64, .int .u64, .int .i64, .int .i64, .int .u64, .int .i64, .int .u64, .int .u64, .int .i64, .int .i64]) 8 (by kernel_rfl) (by kernel_rfl) (hval 1 25 v1 rfl rfl) h1
  obtain ⟨a2, rfl, rfl, rfl, w2⟩ := open_int Try.underlying3 (hval 2 3 v2 rfl rfl) h2
  clear hA0 hval0 hsz0
  refine (walk W c0 w0 c1 w1 a2 w2).mono fun e W' ⟨he, bel⟩ => ?_
  subst he
  exact ⟨_, rfl, _, _, _, [], _, [], hW', trodAll_mk1 (shut_bool Try.underlying4 _), trodAll_below laidOut bel _ _ _ _ (by kernel_rfl) hAk, rfl, bel.frame _, fun h => by cases h⟩

theorem over : Rows.healthTellsRow.holds Try.pinned (OpenSpec.ofChange Rows.healthTellsSpec) :=
  OpenClaim.holds_of_wide 3 Try.f3 rfl rfl rfl rfl rfl rfl rfl ⟨rfl, rfl, rfl, rfl, rfl⟩ rfl rfl rfl rfl rfl (by kernel_rfl) Try.func3 (by kernel_rfl)
    (of_decide_eq_true (by kernel_rfl)) (by unfold Func.isWrapper; first | (rw [if_pos (by decide +kernel)]; kernel_rfl) | (rw [if_neg (by decide +kernel)]; exact ⟨rfl, rfl⟩))
    (fun os started H enc _ => lifted os started H enc)

theorem proved : Rows.HealthTellsSaid := over
#print axioms proved
end Go.Proofs.Ytfncipoiblieeaa.healthTells
