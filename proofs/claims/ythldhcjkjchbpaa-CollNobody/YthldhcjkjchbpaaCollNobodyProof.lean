/- What is proved: CollNobody of porpoiselaw14 answers true for every input, and leaves its arguments as they were; conditions: those of the given row alone. -/
import Derived.Test.YthldhcjkjchbpaaKit
import Derived.Test.YthldhcjkjchbpaaLaw14
namespace Go.Proofs.Ythldhcjkjchbpaa.collNobody
open Go.ChangeShapes Go.WideShapes Go.ChangeAt Go.RowKit Go.Deep
open Go.ChangeMaps (open_string shut_string)
set_option linter.unusedVariables false

theorem own : ownKnob Try.prog.godebug = none := by kernel_rfl
theorem laidOut : laidOutB Try.prog = true := by kernel_rfl

/-- New(5, most): whether there is one, and that it isn't open. -/
theorem new5 (T : Int) (w : World) : Calls Try.prog 27 #[.int .u64 5, .int .i64 T] w fun r w' => ∃ p, r = .returned (.pointer p) ∧ (p.isSome = decide (1 ≤ T ∧ T ≤ 4)) ∧ (∀ wx, Below w'.heap.size w' wx → Calls Try.prog 35 #[.pointer p] wx fun r w' => r = .returned (.bool false) ∧ wx = w') ∧ Below w.heap.size w w' := by
  by_cases h : 1 ≤ T ∧ T ≤ 4
  · refine (new_col 5 T w (by decide) (decide_eq_true ⟨by decide, by decide, h.1, h.2⟩)).mono ?_
    rintro r w' ⟨rfl, hc, hb⟩
    exact ⟨_, rfl, by simp [h], fun wx hx => open_col _ _ wx (hc.below hx), hb⟩
  · refine (new_none 5 T w (by decide) (decide_eq_false (fun hh => h ⟨hh.2.2.1, hh.2.2.2⟩))).mono ?_
    rintro r w' ⟨rfl, rfl⟩
    exact ⟨_, rfl, by simp [h], fun wx _ => open_nil wx, Below.refl _ _⟩
theorem nobody_add (now id x : Int) (w : World) :
    Calls Try.prog 30 #[.pointer none, .int .u64 now, .int .i64 id, .int .i64 x] w fun r w' => r = .returned (stepC false false 0 none 0 0 none 0 0) ∧ Below w.heap.size w w' := add_nobody now id x w

set_option maxRecDepth 100000 in
set_option maxHeartbeats 2000000 in
theorem walk (w : World) (a0 : Int) (w0 : (Lit.int .u64 a0).wf = true) (a1 : Int) (w1 : (Lit.int .i64 a1).wf = true) (a2 : Int) (w2 : (Lit.int .i64 a2).wf = true) :
    Calls Try.prog 10 #[.int .u64 a0, .int .i64 a1, .int .i64 a2] w fun e w' => e = .returned (.bool true) ∧ Below w.heap.size w w' := by
  clear w0 w1 w2
  have NN := Lib.hid (new5 a2)
  go_enter Try.func10, Try.ntmps10
  go_wp2_with fail
  refine (awake14_any _).mono ?_
  rintro r wa ⟨rfl, ba⟩
  have BA := Lib.hid ba
  clear ba
  go_wp2_with fail
  refine (nobody_add a0 a1 1 wa).mono ?_
  rintro r wb ⟨rfl, bb⟩
  have K := Lib.hid (heap_alloc_at wb (stepO false false 0 none 0 0 none 0 0))
  have BB := Lib.hid ((BA.out.trans (bb.mono BA.out.size)).trans ((below_alloc wb (stepO false false 0 none 0 0 none 0 0)).mono (by have := BA.out.size; have := bb.size; omega)))
  clear bb BA
  go_wp2_with fail
  generalize wb.alloc (stepO false false 0 none 0 0 none 0 0) = wc at *
  refine (expire_nil a0 wc).mono ?_
  rintro r wd ⟨rfl, bd⟩
  have bd' := bd.trans ((below_alloc wd (bobj 31 none 0 0 none 0 0)).mono bd.size)
  have K2 := Lib.hid (kb_below K.out bd')
  have BD := Lib.hid (BB.out.trans (bd'.mono BB.out.size))
  clear bd bd' BB K
  go_wp2_with fail
  generalize wd.alloc (bobj 31 none 0 0 none 0 0) = we at *
  refine (NN.out we).mono ?_
  rintro r wf ⟨p, rfl, hp, hO, bf⟩
  have K3 := Lib.hid (kb_below K2.out bf)
  have BF := Lib.hid (BD.out.trans (bf.mono BD.out.size))
  have HP := Lib.hid hp
  have HO := Lib.hid hO
  clear hp hO bf BD K2 NN
  have x0 : wf.cell? ⟨wb.heap.size, 0, none⟩ = some (.bool false) := cell_of K3.out 0
  have x1 : wf.cell? ⟨wb.heap.size, 1, none⟩ = some (.bool false) := cell_of K3.out 1
  clear K3
  go_wp2_with fail
  refine (open_nil wf).mono ?_
  rintro r wx ⟨rfl, h⟩
  rw [← h]
  clear h wx x0 x1
  go_wp2_with fail
  refine (new_none 0 2 wf (by decide) rfl).mono ?_
  rintro r wx ⟨rfl, h⟩
  rw [← h]
  clear h wx
  go_wp2_with fail
  refine (new_none 1099511627777 2 wf (by decide) rfl).mono ?_
  rintro r wx ⟨rfl, h⟩
  rw [← h]
  clear h wx
  cases p with
  | some q =>
    have h12 := HP.out
    simp at h12
    obtain ⟨h1, h2⟩ := h12
    go_wp2_with fail
    refine (HO.out wf (Below.refl _ _)).mono ?_
    rintro r wx ⟨rfl, h⟩
    rw [← h]
    clear h wx
    go_wp2
    go_ret
    exact ⟨rfl, BF.out⟩
  | none =>
    have h12 := HP.out
    simp at h12
    by_cases h1 : (1 : Int) ≤ a2
    · have h2 : ¬ a2 ≤ (4 : Int) := by have := h12 h1; omega
      clear h12
      have H2 := Lib.hid h2
      go_wp2_with fail
      refine (HO.out wf (Below.refl _ _)).mono ?_
      rintro r wx ⟨rfl, h⟩
      rw [← h]
      clear h wx
      go_wp2
      go_ret
      have h3 : ¬ a2 ≤ (4 : Int) := by have := H2.out; omega
      refine ⟨?_, BF.out⟩
      show Ending.returned (.bool (!decide (a2 ≤ 4))) = _
      rw [decide_eq_false h3]
      rfl
    · clear h12
      go_wp2_with fail
      refine (HO.out wf (Below.refl _ _)).mono ?_
      rintro r wx ⟨rfl, h⟩
      rw [← h]
      clear h wx
      go_wp2
      go_ret
      exact ⟨rfl, BF.out⟩

set_option maxRecDepth 100000 in
theorem lifted (os : Os) (started : os.Started) (H : Type) (enc : TypeId × Value → H) :
    ReturnsInHanded {} Try.checked os 10 .any (Rows.collNobodySpec.pre6 enc Try.prog Try.f10 Rows.collNobodyRow.domain false) (Rows.collNobodySpec.post enc Try.prog Try.f10 false true false false) := by
  refine returnsInHanded_of_change_sized (C := Try.checked) own started (by kernel_rfl) Try.func10
    (ChangeSpec.witness6 (enc := enc) (C := Try.checked) false ⟨#[], #[.int .u64 0, .int .i64 0, .int .i64 0], []⟩ 8 (by kernel_rfl) (by kernel_rfl) (by kernel_rfl) (by kernel_rfl)) ?_
  intro W base args ds gs before hval0 hW hcnd hsz0 _
  have hval : ∀ (j : Nat) t v, Try.f10.params[j]? = some t → args[j]? = some v → Value.okWide Try.prog W .any base t v := hval0
  have hsz : (DataW.weightsEach Try.prog (Try.f10.params.toList ++ Rows.collNobodySpec.plain.varTypes Try.prog) (ds ++ gs)).all (· ≤ reachBytes) = true := hsz0
  have hW' := hW
  obtain ⟨p, q, hA0, hV, rfl, hfz, hnd⟩ := hW
  have hA : DataW.TrodAll enc Try.prog W 0 (fun _ => true) true Try.f10.params.toList args.toList ds p := hA0
  rw [Try.params10] at hA hval hsz
  have hAk := hA
  obtain ⟨v0, vs0, d0, ds0, p0, q0, hargs, rfl, rfl, h0, r0⟩ := trodAll_cons hA
  obtain ⟨v1, vs1, d1, ds1, p1, q1, rfl, rfl, rfl, h1, r1⟩ := trodAll_cons r0
  obtain ⟨v2, vs2, d2, ds2, p2, q2, rfl, rfl, rfl, h2, r2⟩ := trodAll_cons r1
  obtain ⟨rfl, rfl, rfl⟩ := trodAll_nil r2
  obtain rfl : args = #[v0, v1, v2] := by cases args; simp_all
  obtain ⟨rfl, rfl⟩ := trodVars_none hV
  obtain ⟨a0, rfl, rfl, rfl, w0⟩ := open_int Try.underlying60 (hval 0 60 v0 rfl rfl) h0
  obtain ⟨a1, rfl, rfl, rfl, w1⟩ := open_int Try.underlying3 (hval 1 3 v1 rfl rfl) h1
  obtain ⟨a2, rfl, rfl, rfl, w2⟩ := open_int Try.underlying3 (hval 2 3 v2 rfl rfl) h2
  clear hA0 hval0 hsz0
  refine (walk W a0 w0 a1 w1 a2 w2).mono fun e W' ⟨he, bel⟩ => ?_
  subst he
  exact ⟨_, rfl, _, _, _, [], _, [], hW', trodAll_mk1 (shut_bool Try.underlying4 _), trodAll_below laidOut bel _ _ _ _ (by kernel_rfl) hAk, rfl, bel.frame _, fun h => by cases h⟩

theorem over : Rows.collNobodyRow.holds Try.pinned (OpenSpec.ofChange Rows.collNobodySpec) :=
  OpenClaim.holds_of_wide 10 Try.f10 rfl rfl rfl rfl rfl rfl rfl ⟨rfl, rfl, rfl, rfl, rfl⟩ rfl rfl rfl rfl rfl (by kernel_rfl) Try.func10 (by kernel_rfl)
    (of_decide_eq_true (by kernel_rfl)) (by unfold Func.isWrapper; first | (rw [if_pos (by decide +kernel)]; kernel_rfl) | (rw [if_neg (by decide +kernel)]; exact ⟨rfl, rfl⟩))
    (fun os started H enc _ => lifted os started H enc)

theorem proved : Rows.CollNobodySaid := over
#print axioms proved
end Go.Proofs.Ythldhcjkjchbpaa.collNobody
