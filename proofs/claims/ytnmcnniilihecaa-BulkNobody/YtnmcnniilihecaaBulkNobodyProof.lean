/- What is proved: BulkNobody of porpoiselaw10 answers true for every input, and leaves its arguments as they were; conditions: those of the given row alone. -/
import Derived.Test.YtnmcnniilihecaaKit
import Derived.Test.YtnmcnniilihecaaAwk10
namespace Go.Proofs.Ytnmcnniilihecaa.bulkNobody
open Go.ChangeShapes Go.WideShapes Go.ChangeAt Go.RowKit Go.Deep
open Go.ChangeMaps (open_string shut_string)
set_option linter.unusedVariables false

theorem own : ownKnob Try.prog.godebug = none := by kernel_rfl
theorem laidOut : laidOutB Try.prog = true := by kernel_rfl

def confN (mode : Int) : Cnf := { Cnf.zero with mode := mode, pool := 1, sem := 1 }
theorem confN_1 : (confN 1).Bulk 1 0 := ⟨by omega, by omega, .inl ⟨rfl, rfl, rfl⟩⟩
theorem confN_2 : (confN 2).Bulk 1 0 := ⟨by omega, by omega, .inr ⟨rfl, rfl, rfl⟩⟩
theorem confN_no {m : Int} (h1 : m ≠ 1) (h2 : m ≠ 2) : (confN m).NoBulk := .inr (.inr ⟨h1, h2⟩)
theorem confP_9 : (confP 9 0).NoBulk := .inl ⟨rfl, .inl (.inr (by show (8 : Int) < 9; omega))⟩
theorem confP_q : (confP 1 (-1)).NoBulk := .inl ⟨rfl, .inr (.inl (by show (-1 : Int) < 0; omega))⟩
/-- New of it: whether there is one. -/
theorem newN (m : Int) (w : World) : Calls Try.prog 10 #[.agg (aggV (confN m).vals)] w fun r w' => ∃ p, r = .returned (.pointer p) ∧ (p.isSome = true ↔ (m = 1 ∨ m = 2)) ∧ Below w.heap.size w w' := by
  by_cases h1 : m = 1
  · subst h1
    refine (new_bul _ 1 0 w confN_1).mono ?_
    rintro r w' ⟨b, rfl, f, _, hb, _⟩
    exact ⟨_, rfl, by simp, hb⟩
  · by_cases h2 : m = 2
    · subst h2
      refine (new_bul _ 1 0 w confN_2).mono ?_
      rintro r w' ⟨b, rfl, f, _, hb, _⟩
      exact ⟨_, rfl, by simp, hb⟩
    · refine (new_nobulk _ w (confN_no h1 h2)).mono ?_
      rintro r w' ⟨rfl, hb⟩
      exact ⟨_, rfl, by simp [h1, h2], hb⟩

set_option maxRecDepth 100000 in
set_option maxHeartbeats 2000000 in
theorem walk (w : World) (a0 : Int) (w0 : (Lit.int .i64 a0).wf = true) (a1 : Int) (w1 : (Lit.int .i64 a1).wf = true) :
    Calls Try.prog 8 #[.int .i64 a0, .int .i64 a1] w fun e w' => e = .returned (.bool true) ∧ Below w.heap.size w w' := by
  clear w0 w1
  have NN := Lib.hid (newN a1)
  go_enter Try.func8, Try.ntmps8
  go_wp2_with fail
  refine (awake_any _).mono ?_
  rintro r wa ⟨rfl, ba⟩
  have BA := Lib.hid ba
  clear ba
  go_wp2_with fail
  refine (admit_nil a0 wa).mono ?_
  rintro r wx ⟨rfl, rfl⟩
  go_wp2_with fail
  refine (pick_nil wa).mono ?_
  rintro r wx ⟨rfl, rfl⟩
  go_wp2_with (first | (refine wpList_build_agg rfl 24 _ rfl (confN a1).vals ?hb ?_; (case hb => kernel_rfl)))
  refine (NN.out wa).mono ?_
  rintro r w1 ⟨p, rfl, hp, b1⟩
  have HP := Lib.hid hp
  have B1 := Lib.hid (BA.out.trans (b1.mono BA.out.size))
  clear hp b1 BA NN
  go_wp2_with fail
  refine (drop_none a0 w1).mono ?_
  rintro r wx ⟨rfl, rfl⟩
  go_wp2_with fail
  refine (free_nil a0 w1).mono ?_
  rintro r w2 ⟨rfl, b2⟩
  have B2 := Lib.hid (B1.out.trans (b2.mono B1.out.size))
  clear b2 B1
  go_wp2_with fail
  refine (runs_none a0 w2).mono ?_
  rintro r w3 ⟨rfl, b3⟩
  have B3 := Lib.hid (B2.out.trans (b3.mono B2.out.size))
  clear b3 B2
  go_wp2_with fail
  refine (busy_none w3).mono ?_
  rintro r wx ⟨rfl, rfl⟩
  go_wp2_with fail
  refine (waiting_none w3).mono ?_
  rintro r wx ⟨rfl, rfl⟩
  have hpc : (p = none ∧ (a1 == 1) = false ∧ (a1 == 2) = false) ∨ (∃ q, p = some q ∧ (a1 == 1) = true) ∨ (∃ q, p = some q ∧ (a1 == 1) = false ∧ (a1 == 2) = true) := by
    have h := HP.out
    cases p with
    | none =>
      simp at h
      exact .inl ⟨rfl, by simp [h.1], by simp [h.2]⟩
    | some q =>
      simp at h
      by_cases h1 : a1 = 1
      · exact .inr (.inl ⟨q, rfl, by simp [h1]⟩)
      · exact .inr (.inr ⟨q, rfl, by simp [h1], by simp [h.resolve_left h1]⟩)
  rcases hpc with ⟨rfl, h1, h2⟩ | ⟨q, rfl, h1⟩ | ⟨q, rfl, h1, h2⟩
  all_goals
    go_wp2_with fail
    refine (new_nobulk (confP 9 0) w3 confP_9).mono ?_
    rintro r w4 ⟨rfl, b4⟩
    have B4 := Lib.hid (B3.out.trans (b4.mono B3.out.size))
    clear b4 B3
    go_wp2_with fail
    refine (new_nobulk (confP 1 (-1)) w4 confP_q).mono ?_
    rintro r w5 ⟨rfl, b5⟩
    have B5 := Lib.hid (B4.out.trans (b5.mono B4.out.size))
    clear b5 B4
    go_wp2
    go_ret
    exact ⟨rfl, B5.out⟩

set_option maxRecDepth 100000 in
theorem lifted (os : Os) (started : os.Started) (H : Type) (enc : TypeId × Value → H) :
    ReturnsInHanded {} Try.checked os 8 .any (Rows.bulkNobodySpec.pre6 enc Try.prog Try.f8 Rows.bulkNobodyRow.domain false) (Rows.bulkNobodySpec.post enc Try.prog Try.f8 false true false false) := by
  refine returnsInHanded_of_change_sized (C := Try.checked) own started (by kernel_rfl) Try.func8
    (ChangeSpec.witness6 (enc := enc) (C := Try.checked) false ⟨#[], #[.int .i64 0, .int .i64 0], []⟩ 8 (by kernel_rfl) (by kernel_rfl) (by kernel_rfl) (by kernel_rfl)) ?_
  intro W base args ds gs before hval0 hW hcnd hsz0 _
  have hval : ∀ (j : Nat) t v, Try.f8.params[j]? = some t → args[j]? = some v → Value.okWide Try.prog W .any base t v := hval0
  have hsz : (DataW.weightsEach Try.prog (Try.f8.params.toList ++ Rows.bulkNobodySpec.plain.varTypes Try.prog) (ds ++ gs)).all (· ≤ reachBytes) = true := hsz0
  have hW' := hW
  obtain ⟨p, q, hA0, hV, rfl, hfz, hnd⟩ := hW
  have hA : DataW.TrodAll enc Try.prog W 0 (fun _ => true) true Try.f8.params.toList args.toList ds p := hA0
  rw [Try.params8] at hA hval hsz
  have hAk := hA
  obtain ⟨v0, vs0, d0, ds0, p0, q0, hargs, rfl, rfl, h0, r0⟩ := trodAll_cons hA
  obtain ⟨v1, vs1, d1, ds1, p1, q1, rfl, rfl, rfl, h1, r1⟩ := trodAll_cons r0
  obtain ⟨rfl, rfl, rfl⟩ := trodAll_nil r1
  obtain rfl : args = #[v0, v1] := by cases args; simp_all
  obtain ⟨rfl, rfl⟩ := trodVars_none hV
  obtain ⟨a0, rfl, rfl, rfl, w0⟩ := open_int Try.underlying3 (hval 0 3 v0 rfl rfl) h0
  obtain ⟨a1, rfl, rfl, rfl, w1⟩ := open_int Try.underlying3 (hval 1 3 v1 rfl rfl) h1
  clear hA0 hval0 hsz0
  refine (walk W a0 w0 a1 w1).mono fun e W' ⟨he, bel⟩ => ?_
  subst he
  exact ⟨_, rfl, _, _, _, [], _, [], hW', trodAll_mk1 (shut_bool Try.underlying4 _), trodAll_below laidOut bel _ _ _ _ (by kernel_rfl) hAk, rfl, bel.frame _, fun h => by cases h⟩

theorem over : Rows.bulkNobodyRow.holds Try.pinned (OpenSpec.ofChange Rows.bulkNobodySpec) :=
  OpenClaim.holds_of_wide 8 Try.f8 rfl rfl rfl rfl rfl rfl rfl ⟨rfl, rfl, rfl, rfl, rfl⟩ rfl rfl rfl rfl rfl (by kernel_rfl) Try.func8 (by kernel_rfl)
    (of_decide_eq_true (by kernel_rfl)) (by unfold Func.isWrapper; first | (rw [if_pos (by decide +kernel)]; kernel_rfl) | (rw [if_neg (by decide +kernel)]; exact ⟨rfl, rfl⟩))
    (fun os started H enc _ => lifted os started H enc)

theorem proved : Rows.BulkNobodySaid := over
#print axioms proved
end Go.Proofs.Ytnmcnniilihecaa.bulkNobody
