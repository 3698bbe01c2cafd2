/- What is proved: BreakerNobody of porpoiselaw09 answers true for every input, and leaves its arguments as they were; conditions: those of the given row alone. -/
import Derived.Test.YtnggcegoomhneaaKit
import Derived.Test.YtnggcegoomhneaaLaw09
namespace Go.Proofs.Ytnggcegoomhneaa.breakerNobody
open Go.ChangeShapes Go.WideShapes Go.ChangeAt Go.RowKit Go.Deep
open Go.ChangeMaps (open_string shut_string)
set_option linter.unusedVariables false

theorem own : ownKnob Try.prog.godebug = none := by kernel_rfl
theorem laidOut : laidOutB Try.prog = true := by kernel_rfl



set_option maxRecDepth 100000 in
set_option maxHeartbeats 2000000 in
theorem walk (w : World) (a0 : Int) (w0 : (Lit.int .u64 a0).wf = true) (a1 : Bool) (c2 : Array Value) (w2 : Flat [.int .i64, .int .i64, .int .i64, .int .i64, .int .i64, .int .i64, .int .u64, .int .u64, .int .i64, .int .i64, .int .u64, .int .i64, .int .u64, .int .u64, .int .i64, .int .i64] c2.toList) :
    Calls Try.prog 8 #[.int .u64 a0, .bool a1, .agg c2] w fun e w' => e = .returned (.bool true) ∧ Below w.heap.size w w' := by
  have b0 := wf_u64 w0
  obtain ⟨c, rfl, hc⟩ := cnf_flat w2
  obtain ⟨g, hg⟩ : ∃ g, w.heap.size = g := ⟨_, rfl⟩
  obtain ⟨fs, hu⟩ := undC
  have HU := Lib.hid hu
  have HC := Lib.hid hc
  have HN := Lib.hid b0
  clear hu hc w0 w2 b0
  go_enter Try.func8, Try.ntmps8
  go_wp2_with (first
    | (refine wpList_box_agg rfl 24 _ rfl g hg c.vals rfl ?_; intro w1 h1 l1 t1)
    | fail)
  refine (awake_any _).mono ?_
  rintro r wa ⟨rfl, hba⟩
  have ha : wa.heap[g]? = some (vobj 24 c.vals) := kb_below h1 hba
  have LA : Hid (Below w.heap.size w wa) := Lib.hid (by rw [hg]; exact l1.trans (hba.mono (by omega)))
  clear h1 l1 hba
  go_wp2_with (refine wpList_load_agg rfl 24 _ rfl g rfl c.vals ?hy _ HU.out rfl (sizeC _) ?_; (case hy => exact ha))
  refine (ob_new w wa c HC.out LA.out).mono ?_
  rintro r w2 ⟨b, rfl, _, h2, _⟩
  have H2 : Hid (OwB w w2 b ⟨c.sleep, c.force, 1, 0⟩) := Lib.hid h2
  clear h2 ha
  go_wp2_with fail
  refine (ask_nil a0 w2).mono ?_
  rintro r w3 ⟨rfl, rfl⟩
  go_wp2_with fail
  refine (trip_nil a0 w3).mono ?_
  rintro r w4 ⟨rfl, rfl⟩
  go_wp2_with fail
  refine (done_nil a0 a1 w4).mono ?_
  rintro r w5 ⟨rfl, rfl⟩
  go_wp2_with fail
  refine (back_nil w5).mono ?_
  rintro r w6 ⟨rfl, rfl⟩
  go_wp2_with fail
  refine (state_nil w6).mono ?_
  rintro r w7 ⟨rfl, rfl⟩
  go_wp2_with fail
  refine (since_nil w7).mono ?_
  rintro r w8 ⟨rfl, rfl⟩
  go_wp2_with fail
  refine (ob_state w b _ w8 H2.out 1 rfl).mono ?_
  rintro r wx ⟨rfl, rfl⟩
  go_wp2_with fail
  refine (ob_done w b a0 a1 _ w8 H2.out HN.out false ⟨c.sleep, c.force, 1, 0⟩ rfl rfl).mono ?_
  rintro r w9 ⟨rfl, h9, _⟩
  have H9 := Lib.hid h9
  clear h9 H2
  go_wp2_with fail
  refine (ob_back w b _ w9 H9.out false ⟨c.sleep, c.force, 1, 0⟩ rfl rfl).mono ?_
  rintro r w10 ⟨rfl, h10, _⟩
  have H10 := Lib.hid h10
  clear h10 H9
  go_wp2_with fail
  refine (ob_since w b _ w10 H10.out 0 rfl).mono ?_
  rintro r wx ⟨rfl, rfl⟩
  go_wp2
  go_ret
  exact ⟨rfl, H10.out.low⟩

set_option maxRecDepth 100000 in
theorem lifted (os : Os) (started : os.Started) (H : Type) (enc : TypeId × Value → H) :
    ReturnsInHanded {} Try.checked os 8 .any (Rows.breakerNobodySpec.pre6 enc Try.prog Try.f8 Rows.breakerNobodyRow.domain false) (Rows.breakerNobodySpec.post enc Try.prog Try.f8 false true false false) := by
  refine returnsInHanded_of_change_sized (C := Try.checked) own started (by kernel_rfl) Try.func8
    (ChangeSpec.witness6 (enc := enc) (C := Try.checked) false ⟨#[], #[.int .u64 0, .bool false, .agg #[.int .i64 0, .int .i64 0, .int .i64 0, .int .i64 0, .int .i64 0, .int .i64 0, .int .u64 0, .int .u64 0, .int .i64 0, .int .i64 0, .int .u64 0, .int .i64 0, .int .u64 0, .int .u64 0, .int .i64 0, .int .i64 0]], []⟩ 8 (by kernel_rfl) (by kernel_rfl) (by kernel_rfl) (by kernel_rfl)) ?_
  intro W base args ds gs before hval0 hW hcnd hsz0 _
  have hval : ∀ (j : Nat) t v, Try.f8.params[j]? = some t → args[j]? = some v → Value.okWide Try.prog W .any base t v := hval0
  have hsz : (DataW.weightsEach Try.prog (Try.f8.params.toList ++ Rows.breakerNobodySpec.plain.varTypes Try.prog) (ds ++ gs)).all (· ≤ reachBytes) = true := hsz0
  have hW' := hW
  obtain ⟨p, q, hA0, hV, rfl, hfz, hnd⟩ := hW
  have hA : DataW.TrodAll enc Try.prog W 0 (fun _ => true) true Try.f8.params.toList args.toList ds p := hA0
  rw [Try.params8] at hA hval hsz
  have hAk := hA
  obtain ⟨v0, vs0, d0, ds0, p0, q0, hargs, rfl, rfl, h0, r0⟩ := trodAll_cons hA
  obtain ⟨v1, vs1, d1, ds1, p1, q1, rfl, rfl, rfl, h1, r1⟩ := trodAll_cons r0
  obtain ⟨v2, vs2, d2, ds2, p2, q2, rfl, rfl, rfl, h2, r2⟩ := trodAll_cons r1
  obtain ⟨rfl, rfl, rfl⟩ := trodAll_nil r2
  obtain rfl : args = #[v0, v1, v2] := by cases args; simp_all
  obtain ⟨rfl, rfl⟩ := trodVars_none hV
  obtain ⟨a0, rfl, rfl, rfl, w0⟩ := open_int Try.underlying22 (hval 0 22 v0 rfl rfl) h0
  obtain ⟨a1, rfl, rfl, rfl⟩ := open_bool Try.underlying4 (hval 1 4 v1 rfl rfl) h1
  obtain ⟨c2, rfl, w2⟩ := open_flat (ks := [.int .i64, .int .i64, .int .i64, .int .i64, .int .i64, .int .i64, .int .u64, .int .u64, .int .i64, .int .i64, .int .u64, .int .i64, .int .u64, .int .u64, .int .i64, .int .i64]) 8 (by kernel_rfl) (by kernel_rfl) (hval 2 24 v2 rfl rfl) h2
  clear hA0 hval0 hsz0
  refine (walk W a0 w0 a1 c2 w2).mono fun e W' ⟨he, bel⟩ => ?_
  subst he
  exact ⟨_, rfl, _, _, _, [], _, [], hW', trodAll_mk1 (shut_bool Try.underlying4 _), trodAll_below laidOut bel _ _ _ _ (by kernel_rfl) hAk, rfl, bel.frame _, fun h => by cases h⟩

theorem over : Rows.breakerNobodyRow.holds Try.pinned (OpenSpec.ofChange Rows.breakerNobodySpec) :=
  OpenClaim.holds_of_wide 8 Try.f8 rfl rfl rfl rfl rfl rfl rfl ⟨rfl, rfl, rfl, rfl, rfl⟩ rfl rfl rfl rfl rfl (by kernel_rfl) Try.func8 (by kernel_rfl)
    (of_decide_eq_true (by kernel_rfl)) (by unfold Func.isWrapper; first | (rw [if_pos (by decide +kernel)]; kernel_rfl) | (rw [if_neg (by decide +kernel)]; exact ⟨rfl, rfl⟩))
    (fun os started H enc _ => lifted os started H enc)

theorem proved : Rows.BreakerNobodySaid := over
#print axioms proved
end Go.Proofs.Ytnggcegoomhneaa.breakerNobody
