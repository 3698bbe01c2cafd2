/- What is proved: RingNobody of porpoiselaw04 answers true for every input, and leaves its arguments as they were; conditions: those of the given row alone. -/
import Derived.Test.YtlfeenibepmicaaKit
import Derived.Test.YtlfeenibepmicaaLaw04
namespace Go.Proofs.Ytlfeenibepmicaa.ringNobody
open Go.ChangeShapes Go.WideShapes Go.ChangeAt Go.RowKit Go.Deep
open Go.ChangeMaps (open_string shut_string)
set_option linter.unusedVariables false

theorem own : ownKnob Try.prog.godebug = none := by kernel_rfl
theorem laidOut : laidOutB Try.prog = true := by kernel_rfl



set_option maxRecDepth 100000 in
set_option maxHeartbeats 2000000 in
theorem walk (w : World) (a0 : Int) (w0 : (Lit.int .i64 a0).wf = true) :
    Calls Try.prog 8 #[.int .i64 a0] w fun e w' => e = .returned (.bool true) ∧ Below w.heap.size w w' := by
  have hx := wf_of w0
  clear w0
  go_enter Try.func8, Try.ntmps8
  go_wp2_with fail
  refine (awake_any _).mono ?_
  rintro r wa ⟨rfl, hba⟩
  have HA := Lib.hid hba
  clear hba
  go_wp2_with fail
  refine (pop_nil wa).mono ?_
  rintro r wb ⟨rfl, rfl⟩
  go_wp2_with fail
  refine (ow_new w wb 0 (by omega) HA.out).mono ?_
  rintro r w1 ⟨rfl, h1, _⟩
  have H1 := Lib.hid h1
  clear h1
  go_wp2_with fail
  refine (pop_none _ 0 w1 H1.out.rng).mono ?_
  rintro r w2 ⟨rfl, rfl⟩
  go_wp2_with fail
  refine (push_nil a0 w2).mono ?_
  rintro r w3 ⟨rfl, ha⟩
  have H3 := Lib.hid (H1.out.ali ha)
  clear ha
  go_wp2_with fail
  refine (remove_nil a0 w3).mono ?_
  rintro r w4 ⟨rfl, rfl⟩
  go_wp2_with fail
  refine (list_nil w4).mono ?_
  rintro r w5 ⟨rfl, rfl⟩
  go_wp2_with fail
  refine (len_nil w5).mono ?_
  rintro r w6 ⟨rfl, rfl⟩
  go_wp2_with fail
  refine (full_nil w6).mono ?_
  rintro r w7 ⟨rfl, ha⟩
  have H7 := Lib.hid (H3.out.ali ha)
  clear ha
  go_wp2_with fail
  refine (push_full _ 0 a0 [] w7 H7.out.rng rfl).mono ?_
  rintro r w8 ⟨rfl, ha⟩
  have H8 := Lib.hid (H7.out.ali ha)
  clear ha
  go_wp2_with fail
  refine (full_ring _ 0 [] w8 H8.out.rng).mono ?_
  rintro r w9 ⟨rfl, ha⟩
  have H9 := Lib.hid (H8.out.ali ha)
  clear ha
  go_wp2
  go_ret
  exact ⟨rfl, H9.out.low⟩

set_option maxRecDepth 100000 in
theorem lifted (os : Os) (started : os.Started) (H : Type) (enc : TypeId × Value → H) :
    ReturnsInHanded {} Try.checked os 8 .any (Rows.ringNobodySpec.pre6 enc Try.prog Try.f8 Rows.ringNobodyRow.domain false) (Rows.ringNobodySpec.post enc Try.prog Try.f8 false true false false) := by
  refine returnsInHanded_of_change_sized (C := Try.checked) own started (by kernel_rfl) Try.func8
    (ChangeSpec.witness6 (enc := enc) (C := Try.checked) false ⟨#[], #[.int .i64 0], []⟩ 8 (by kernel_rfl) (by kernel_rfl) (by kernel_rfl) (by kernel_rfl)) ?_
  intro W base args ds gs before hval0 hW hcnd hsz0 _
  have hval : ∀ (j : Nat) t v, Try.f8.params[j]? = some t → args[j]? = some v → Value.okWide Try.prog W .any base t v := hval0
  have hsz : (DataW.weightsEach Try.prog (Try.f8.params.toList ++ Rows.ringNobodySpec.plain.varTypes Try.prog) (ds ++ gs)).all (· ≤ reachBytes) = true := hsz0
  have hW' := hW
  obtain ⟨p, q, hA0, hV, rfl, hfz, hnd⟩ := hW
  have hA : DataW.TrodAll enc Try.prog W 0 (fun _ => true) true Try.f8.params.toList args.toList ds p := hA0
  rw [Try.params8] at hA hval hsz
  have hAk := hA
  obtain ⟨v0, vs0, d0, ds0, p0, q0, hargs, rfl, rfl, h0, r0⟩ := trodAll_cons hA
  obtain ⟨rfl, rfl, rfl⟩ := trodAll_nil r0
  obtain rfl : args = #[v0] := by cases args; simp_all
  obtain ⟨rfl, rfl⟩ := trodVars_none hV
  obtain ⟨a0, rfl, rfl, rfl, w0⟩ := open_int Try.underlying3 (hval 0 3 v0 rfl rfl) h0
  clear hA0 hval0 hsz0
  refine (walk W a0 w0).mono fun e W' ⟨he, bel⟩ => ?_
  subst he
  exact ⟨_, rfl, _, _, _, [], _, [], hW', trodAll_mk1 (shut_bool Try.underlying4 _), trodAll_below laidOut bel _ _ _ _ (by kernel_rfl) hAk, rfl, bel.frame _, fun h => by cases h⟩

theorem over : Rows.ringNobodyRow.holds Try.pinned (OpenSpec.ofChange Rows.ringNobodySpec) :=
  OpenClaim.holds_of_wide 8 Try.f8 rfl rfl rfl rfl rfl rfl rfl ⟨rfl, rfl, rfl, rfl, rfl⟩ rfl rfl rfl rfl rfl (by kernel_rfl) Try.func8 (by kernel_rfl)
    (of_decide_eq_true (by kernel_rfl)) (by unfold Func.isWrapper; first | (rw [if_pos (by decide +kernel)]; kernel_rfl) | (rw [if_neg (by decide +kernel)]; exact ⟨rfl, rfl⟩))
    (fun os started H enc _ => lifted os started H enc)

theorem proved : Rows.RingNobodySaid := over
#print axioms proved
end Go.Proofs.Ytlfeenibepmicaa.ringNobody
