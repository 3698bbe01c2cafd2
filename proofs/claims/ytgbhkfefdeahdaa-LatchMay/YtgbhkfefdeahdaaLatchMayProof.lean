/- What is proved: LatchMay of porpoiselaw11 answers true for every input, and leaves its arguments as they were; conditions: those of the given row alone. -/
import Derived.Test.YtgbhkfefdeahdaaKit
import Derived.Test.YtgbhkfefdeahdaaLaw11
namespace Go.Proofs.Ytgbhkfefdeahdaa.latchMay
open Go.ChangeShapes Go.WideShapes Go.ChangeAt Go.RowKit Go.Deep
open Go.ChangeMaps (open_string shut_string)
set_option linter.unusedVariables false

theorem own : ownKnob Try.prog.godebug = none := by kernel_rfl
theorem laidOut : laidOutB Try.prog = true := by kernel_rfl

/-- Of what kinds and causes is what may be. -/
theorem may_are {x : Ot} (h : x.may = true) : (x.kind = 1 ∧ x.cause = 0) ∨ (x.kind = 2 ∧ x.cause = 0) ∨ (x.kind = 3 ∧ 1 ≤ x.cause ∧ x.cause ≤ 4) ∨ (x.kind = 4 ∧ x.val = 0 ∧ 1 ≤ x.cause ∧ x.cause ≤ 4) := by
  unfold Ot.may at h
  have := of_decide_eq_true h
  unfold Ot.May at this
  omega

set_option maxRecDepth 100000 in
set_option maxHeartbeats 2000000 in
theorem walk (w : World) (c0 : Array Value) (w0 : Flat [.int .i64, .int .i64, .int .i64, .int .i64, .int .u64] c0.toList) :
    Calls Try.prog 7 #[.agg c0] w fun e w' => e = .returned (.bool true) ∧ Below w.heap.size w w' := by
  obtain ⟨x, rfl, hx⟩ := out_agg w0
  obtain ⟨g, hg⟩ : ∃ g, w.heap.size = g := ⟨_, rfl⟩
  obtain ⟨fs, hu⟩ := undO
  have HU := Lib.hid hu
  have HM := Lib.hid (may_any x)
  clear hu hx w0
  cases hm : x.may
  · rw [hm] at HM
    clear hm
    go_enter Try.func7, Try.ntmps7
    go_wp2_with (first
      | (refine wpList_box_agg rfl 29 _ rfl g hg x.vals rfl ?_; intro w1 h1 l1 t1; have H1 := Lib.hid h1; have L1 : Hid (Below w.heap.size w w1) := Lib.hid (by rw [hg]; exact l1); clear h1 l1 t1)
      | (go_at_call 9; refine (awake_any w1).mono ?_; rintro r w2 ⟨rfl, b2⟩; have L2 := Lib.hid (L1.out.trans (b2.mono L1.out.size)); have H2 := Lib.hid (kb_below H1.out b2); clear b2)
      | (refine wpList_load_agg rfl 29 _ rfl g rfl x.vals ?hy _ HU.out rfl (sizeO _) ?_; (case hy => exact H2.out))
      | (go_at_call 15; refine (HM.out w2).mono ?_; rintro r w3 ⟨rfl, b3⟩; have L3 := Lib.hid (L2.out.trans (b3.mono L2.out.size)); clear b3))
    go_ret
    exact ⟨rfl, by first | exact L3.out | (rw [← hg]; exact L3.out)⟩
  · rw [hm] at HM
    have hk := may_are hm
    clear hm
    have hk' : (x.kind = 1 ∧ x.cause = 0) ∨ (x.kind = 2 ∧ x.cause = 0) ∨ (x.kind = 3 ∧ (x.cause == 0) = false ∧ 0 ≤ x.cause ∧ x.cause ≤ 4) ∨ (x.kind = 4 ∧ x.val = 0 ∧ (x.cause == 0) = false ∧ 0 ≤ x.cause ∧ x.cause ≤ 4) := by
      simp only [beq_eq_false_iff_ne]
      omega
    clear hk
    rcases hk' with ⟨k1, k2⟩ | ⟨k1, k2⟩ | ⟨k1, k2, k3, k4⟩ | ⟨k1, k5, k2, k3, k4⟩
    all_goals (
      go_enter Try.func7, Try.ntmps7
      go_wp2_with (first
        | (refine wpList_box_agg rfl 29 _ rfl g hg x.vals rfl ?_; intro w1 h1 l1 t1; have H1 := Lib.hid h1; have L1 : Hid (Below w.heap.size w w1) := Lib.hid (by rw [hg]; exact l1); clear h1 l1 t1)
        | (go_at_call 9; refine (awake_any w1).mono ?_; rintro r w2 ⟨rfl, b2⟩; have L2 := Lib.hid (L1.out.trans (b2.mono L1.out.size)); have H2 := Lib.hid (kb_below H1.out b2); clear b2)
        | (refine wpList_load_agg rfl 29 _ rfl g rfl x.vals ?hy _ HU.out rfl (sizeO _) ?_; (case hy => exact H2.out))
        | (go_at_call 15; refine (HM.out w2).mono ?_; rintro r w3 ⟨rfl, b3⟩; have L3 := Lib.hid (L2.out.trans (b3.mono L2.out.size)); obtain ⟨d0, d1, d2, d3, d4⟩ := cellsO (kb_below H2.out b3); clear b3 d0 d4))
      go_ret
      exact ⟨rfl, by first | exact L3.out | (rw [← hg]; exact L3.out)⟩)

set_option maxRecDepth 100000 in
theorem lifted (os : Os) (started : os.Started) (H : Type) (enc : TypeId × Value → H) :
    ReturnsInHanded {} Try.checked os 7 .any (Rows.latchMaySpec.pre6 enc Try.prog Try.f7 Rows.latchMayRow.domain false) (Rows.latchMaySpec.post enc Try.prog Try.f7 false true false false) := by
  refine returnsInHanded_of_change_sized (C := Try.checked) own started (by kernel_rfl) Try.func7
    (ChangeSpec.witness6 (enc := enc) (C := Try.checked) false ⟨#[], #[.agg #[.int .i64 0, .int .i64 0, .int .i64 0, .int .i64 0, .int .u64 0]], []⟩ 8 (by kernel_rfl) (by kernel_rfl) (by kernel_rfl) (by kernel_rfl)) ?_
  intro W base args ds gs before hval0 hW hcnd hsz0 _
  have hval : ∀ (j : Nat) t v, Try.f7.params[j]? = some t → args[j]? = some v → Value.okWide Try.prog W .any base t v := hval0
  have hsz : (DataW.weightsEach Try.prog (Try.f7.params.toList ++ Rows.latchMaySpec.plain.varTypes Try.prog) (ds ++ gs)).all (· ≤ reachBytes) = true := hsz0
  have hW' := hW
  obtain ⟨p, q, hA0, hV, rfl, hfz, hnd⟩ := hW
  have hA : DataW.TrodAll enc Try.prog W 0 (fun _ => true) true Try.f7.params.toList args.toList ds p := hA0
  rw [Try.params7] at hA hval hsz
  have hAk := hA
  obtain ⟨v0, vs0, d0, ds0, p0, q0, hargs, rfl, rfl, h0, r0⟩ := trodAll_cons hA
  obtain ⟨rfl, rfl, rfl⟩ := trodAll_nil r0
  obtain rfl : args = #[v0] := by cases args; simp_all
  obtain ⟨rfl, rfl⟩ := trodVars_none hV
  obtain ⟨c0, rfl, w0⟩ := open_flat (ks := [.int .i64, .int .i64, .int .i64, .int .i64, .int .u64]) 8 (by kernel_rfl) (by kernel_rfl) (hval 0 29 v0 rfl rfl) h0
  clear hA0 hval0 hsz0
  refine (walk W c0 w0).mono fun e W' ⟨he, bel⟩ => ?_
  subst he
  exact ⟨_, rfl, _, _, _, [], _, [], hW', trodAll_mk1 (shut_bool Try.underlying4 _), trodAll_below laidOut bel _ _ _ _ (by kernel_rfl) hAk, rfl, bel.frame _, fun h => by cases h⟩

theorem over : Rows.latchMayRow.holds Try.pinned (OpenSpec.ofChange Rows.latchMaySpec) :=
  OpenClaim.holds_of_wide 7 Try.f7 rfl rfl rfl rfl rfl rfl rfl ⟨rfl, rfl, rfl, rfl, rfl⟩ rfl rfl rfl rfl rfl (by kernel_rfl) Try.func7 (by kernel_rfl)
    (of_decide_eq_true (by kernel_rfl)) (by unfold Func.isWrapper; first | (rw [if_pos (by decide +kernel)]; kernel_rfl) | (rw [if_neg (by decide +kernel)]; exact ⟨rfl, rfl⟩))
    (fun os started H enc _ => lifted os started H enc)

theorem proved : Rows.LatchMaySaid := over
#print axioms proved
end Go.Proofs.Ytgbhkfefdeahdaa.latchMay
