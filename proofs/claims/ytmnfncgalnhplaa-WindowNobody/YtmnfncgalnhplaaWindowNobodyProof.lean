/- What is proved: WindowNobody of porpoiselaw06 answers true for every input, and leaves its arguments as they were; conditions: those of the given row alone. -/
import Derived.Test.YtmnfncgalnhplaaKit
import Derived.Test.YtmnfncgalnhplaaLaw06
namespace Go.Proofs.Ytmnfncgalnhplaa.windowNobody
open Go.ChangeShapes Go.WideShapes Go.ChangeAt Go.RowKit Go.Deep
open Go.ChangeMaps (open_string shut_string)
set_option linter.unusedVariables false

theorem own : ownKnob Try.prog.godebug = none := by kernel_rfl
theorem laidOut : laidOutB Try.prog = true := by kernel_rfl

theorem one_tot (q k i : Nat) (n : Int) (h : 0 ≤ n ∧ n ≤ 18446744073709551615) : satS (tot (upd (fun _ _ => 0) q k n) q i 1) = if i = k then n else 0 := by
  have e : tot (upd (fun _ _ => 0) q k n) q i 1 = if i = k then n else 0 := by
    simp [tot, sumN, upd]
  rw [e]
  split
  · exact satS_of h.2
  · rfl

set_option maxRecDepth 100000 in
set_option maxHeartbeats 2000000 in
theorem walk (w : World) (a0 : Int) (w0 : (Lit.int .u64 a0).wf = true) (a1 : Int) (w1 : (Lit.int .i64 a1).wf = true) (a2 : Int) (w2 : (Lit.int .u64 a2).wf = true) :
    Calls Try.prog 7 #[.int .u64 a0, .int .i64 a1, .int .u64 a2] w fun e w' => e = .returned (.bool true) ∧ Below w.heap.size w w' := by
  have b0 := wf_u64 w0
  have b2 := wf_u64 w2
  obtain ⟨now, rfl⟩ : ∃ now : Nat, a0 = now := ⟨a0.toNat, by omega⟩
  clear w0 w1 w2
  go_enter Try.func7, Try.ntmps7
  go_wp2_with fail
  refine (awake_any _).mono ?_
  rintro r wa ⟨rfl, hba⟩
  have HA := Lib.hid hba
  clear hba
  go_wp2_with fail
  refine (reset_nil wa).mono ?_
  rintro r wb ⟨rfl, rfl⟩
  go_wp2_with fail
  refine (ow_new w wb 1 1 (by omega) (by omega) (by omega) (by omega) HA.out).mono ?_
  rintro r w1 ⟨rfl, h1, _⟩
  have H1 := Lib.hid h1
  clear h1
  generalize wb.heap.size = b at *
  have s0 := same5 (a := 0) (b := 0) (c := 0) (d := 0) (e := 0) (by omega) (by omega) (by omega) (by omega) (by omega)
  by_cases hk : 0 ≤ a1 ∧ a1 ≤ 4
  · obtain ⟨k, rfl⟩ : ∃ k : Nat, a1 = k := ⟨a1.toNat, by omega⟩
    have k5 : k < 5 := by omega
    clear hk
    go_wp2_with fail
    refine (ow_add w b 1 1 0 now k a2 _ w1 now (upd (fun _ _ => 0) now k a2) H1.out (by omega) k5 b2.1 b2.2 (by simp) (by simp [addS, b2.2])).mono ?_
    rintro r w2 ⟨rfl, _, hw⟩
    have H2 := Lib.hid hw
    clear hw
    go_wp2_with fail
    refine (ow_counts w b 1 1 now now _ w2 now _ _ _ _ _ H2.out (by omega) (by simp) (one_tot _ _ _ _ b2) (one_tot _ _ _ _ b2) (one_tot _ _ _ _ b2) (one_tot _ _ _ _ b2) (one_tot _ _ _ _ b2)).mono ?_
    rintro r w3 ⟨rfl, _, hw⟩
    have H3 := Lib.hid hw
    clear hw
    rcases (show k = 0 ∨ k = 1 ∨ k = 2 ∨ k = 3 ∨ k = 4 by omega) with rfl | rfl | rfl | rfl | rfl
    all_goals
      go_wp2
      refine wp_loop_rounds 6 ?_
      repeat any_goals (rw [rounds_succ]; go_wp2_with (first
        | (go_at_call 10; refine (add_nil _ _ _ _).mono ?_; rintro r w5 ⟨rfl, rfl⟩)
        | (go_at_call 11; refine (counts_nil _ _).mono ?_; rintro r w6 ⟨rfl, hb6⟩; have HB6 := Lib.hid hb6; clear hb6)))
      go_ret
      exact ⟨rfl, ((H3.out.below (below_alloc _ _)).below HB6.out).low⟩
  · go_wp2_with fail
    refine (add_bad b now a1 a2 w1 (by omega)).mono ?_
    rintro r w2 ⟨rfl, rfl⟩
    go_wp2_with fail
    refine (ow_counts w b 1 1 0 now _ w2 now 0 0 0 0 0 H1.out (by omega) (by simp) (sat_none _ _ _) (sat_none _ _ _) (sat_none _ _ _) (sat_none _ _ _) (sat_none _ _ _)).mono ?_
    rintro r w3 ⟨rfl, _, hw⟩
    have H3 := Lib.hid hw
    clear hw
    by_cases h0 : 0 ≤ a1
    · have h4 : ¬ a1 ≤ 4 := by omega
      clear hk
      go_wp2
      refine wp_loop_rounds 6 ?_
      repeat any_goals (rw [rounds_succ]; go_wp2_with (first
        | (go_at_call 10; refine (add_nil _ _ _ _).mono ?_; rintro r w5 ⟨rfl, rfl⟩)
        | (go_at_call 11; refine (counts_nil _ _).mono ?_; rintro r w6 ⟨rfl, hb6⟩; have HB6 := Lib.hid hb6; clear hb6)))
      go_ret
      exact ⟨rfl, ((H3.out.below (below_alloc _ _)).below HB6.out).low⟩
    · clear hk
      go_wp2
      refine wp_loop_rounds 6 ?_
      repeat any_goals (rw [rounds_succ]; go_wp2_with (first
        | (go_at_call 10; refine (add_nil _ _ _ _).mono ?_; rintro r w5 ⟨rfl, rfl⟩)
        | (go_at_call 11; refine (counts_nil _ _).mono ?_; rintro r w6 ⟨rfl, hb6⟩; have HB6 := Lib.hid hb6; clear hb6)))
      go_ret
      exact ⟨rfl, ((H3.out.below (below_alloc _ _)).below HB6.out).low⟩

set_option maxRecDepth 100000 in
theorem lifted (os : Os) (started : os.Started) (H : Type) (enc : TypeId × Value → H) :
    ReturnsInHanded {} Try.checked os 7 .any (Rows.windowNobodySpec.pre6 enc Try.prog Try.f7 Rows.windowNobodyRow.domain false) (Rows.windowNobodySpec.post enc Try.prog Try.f7 false true false false) := by
  refine returnsInHanded_of_change_sized (C := Try.checked) own started (by kernel_rfl) Try.func7
    (ChangeSpec.witness6 (enc := enc) (C := Try.checked) false ⟨#[], #[.int .u64 0, .int .i64 0, .int .u64 0], []⟩ 8 (by kernel_rfl) (by kernel_rfl) (by kernel_rfl) (by kernel_rfl)) ?_
  intro W base args ds gs before hval0 hW hcnd hsz0 _
  have hval : ∀ (j : Nat) t v, Try.f7.params[j]? = some t → args[j]? = some v → Value.okWide Try.prog W .any base t v := hval0
  have hsz : (DataW.weightsEach Try.prog (Try.f7.params.toList ++ Rows.windowNobodySpec.plain.varTypes Try.prog) (ds ++ gs)).all (· ≤ reachBytes) = true := hsz0
  have hW' := hW
  obtain ⟨p, q, hA0, hV, rfl, hfz, hnd⟩ := hW
  have hA : DataW.TrodAll enc Try.prog W 0 (fun _ => true) true Try.f7.params.toList args.toList ds p := hA0
  rw [Try.params7] at hA hval hsz
  have hAk := hA
  obtain ⟨v0, vs0, d0, ds0, p0, q0, hargs, rfl, rfl, h0, r0⟩ := trodAll_cons hA
  obtain ⟨v1, vs1, d1, ds1, p1, q1, rfl, rfl, rfl, h1, r1⟩ := trodAll_cons r0
  obtain ⟨v2, vs2, d2, ds2, p2, q2, rfl, rfl, rfl, h2, r2⟩ := trodAll_cons r1
  obtain ⟨rfl, rfl, rfl⟩ := trodAll_nil r2
  obtain rfl : args = #[v0, v1, v2] := by cases args; simp_all
  obtain ⟨rfl, rfl⟩ := trodVars_none hV
  obtain ⟨a0, rfl, rfl, rfl, w0⟩ := open_int Try.underlying26 (hval 0 26 v0 rfl rfl) h0
  obtain ⟨a1, rfl, rfl, rfl, w1⟩ := open_int Try.underlying3 (hval 1 3 v1 rfl rfl) h1
  obtain ⟨a2, rfl, rfl, rfl, w2⟩ := open_int Try.underlying26 (hval 2 26 v2 rfl rfl) h2
  clear hA0 hval0 hsz0
  refine (walk W a0 w0 a1 w1 a2 w2).mono fun e W' ⟨he, bel⟩ => ?_
  subst he
  exact ⟨_, rfl, _, _, _, [], _, [], hW', trodAll_mk1 (shut_bool Try.underlying4 _), trodAll_below laidOut bel _ _ _ _ (by kernel_rfl) hAk, rfl, bel.frame _, fun h => by cases h⟩

theorem over : Rows.windowNobodyRow.holds Try.pinned (OpenSpec.ofChange Rows.windowNobodySpec) :=
  OpenClaim.holds_of_wide 7 Try.f7 rfl rfl rfl rfl rfl rfl rfl ⟨rfl, rfl, rfl, rfl, rfl⟩ rfl rfl rfl rfl rfl (by kernel_rfl) Try.func7 (by kernel_rfl)
    (of_decide_eq_true (by kernel_rfl)) (by unfold Func.isWrapper; first | (rw [if_pos (by decide +kernel)]; kernel_rfl) | (rw [if_neg (by decide +kernel)]; exact ⟨rfl, rfl⟩))
    (fun os started H enc _ => lifted os started H enc)

theorem proved : Rows.WindowNobodySaid := over
#print axioms proved
end Go.Proofs.Ytmnfncgalnhplaa.windowNobody
