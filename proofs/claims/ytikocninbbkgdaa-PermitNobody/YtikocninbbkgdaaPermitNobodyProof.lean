/- What is proved: PermitNobody of porpoiselaw05 answers true for every input, and leaves its arguments as they were; conditions: those of the given row alone. -/
import Derived.Test.YtikocninbbkgdaaKit
import Derived.Test.YtikocninbbkgdaaLaw05
namespace Go.Proofs.Ytikocninbbkgdaa.permitNobody
open Go.ChangeShapes Go.WideShapes Go.ChangeAt Go.RowKit Go.Deep
open Go.ChangeMaps (open_string shut_string)
set_option linter.unusedVariables false

theorem own : ownKnob Try.prog.godebug = none := by kernel_rfl
theorem laidOut : laidOutB Try.prog = true := by kernel_rfl



set_option maxRecDepth 100000 in
set_option maxHeartbeats 2000000 in
theorem walk (w : World) (c0 : Array Value) (w0 : Flat [.int .i64, .int .i64] c0.toList) :
    Calls Try.prog 8 #[.agg c0] w fun e w' => e = .returned (.bool true) ∧ Below w.heap.size w w' := by
  obtain ⟨x, y, rfl, hx0, hy0⟩ := w0.two
  have hx : wfH (x, y) := ⟨bounds_i64 hx0, bounds_i64 hy0⟩
  clear w0 hx0 hy0
  have hb1 := below_alloc w (robj (x, y))
  have hd1 := heap_alloc_at w (robj (x, y))
  generalize hW : w.alloc (robj (x, y)) = w1 at *
  have HB := Lib.hid hb1
  have HD := Lib.hid hd1
  clear hb1 hd1
  go_enter Try.func8, Try.ntmps8
  go_wp2_with fail
  refine (awake_any w1).mono ?_
  rintro r wa ⟨rfl, hba⟩
  have HA := Lib.hid hba
  clear hba hW
  go_wp2_with fail
  refine (ow_new w1 wa 0 (by omega) HA.out).mono ?_
  rintro r w2 ⟨b, rfl, m, h2, _⟩
  have H2 := Lib.hid h2
  obtain ⟨d0, d1⟩ := rcells (kb_below HD.out h2.low)
  clear h2
  go_wp2_with fail
  refine (made_any x y w2).mono ?_
  rintro r w3 ⟨rfl, hb⟩
  have H3 := Lib.hid (H2.out.below hb)
  clear hb d0 d1
  go_wp2_with fail
  refine (take_none x y w3).mono ?_
  rintro r w4 ⟨rfl, hb⟩
  have H4 := Lib.hid (H3.out.below hb)
  obtain ⟨d0, d1⟩ := rcells (kb_below HD.out H4.out.low)
  clear hb
  go_wp2_with fail
  refine (made_any x y w4).mono ?_
  rintro r w5 ⟨rfl, hb⟩
  have H5 := Lib.hid (H4.out.below hb)
  clear hb d0 d1
  go_wp2_with fail
  refine (free_none x y w5).mono ?_
  rintro r w6 ⟨rfl, hb⟩
  have H6 := Lib.hid (H5.out.below hb)
  obtain ⟨d0, d1⟩ := rcells (kb_below HD.out H6.out.low)
  clear hb
  go_wp2_with fail
  refine (made_any x y w6).mono ?_
  rintro r w7 ⟨rfl, hb⟩
  have H7 := Lib.hid (H6.out.below hb)
  clear hb d0 d1
  go_wp2_with fail
  refine (holds_none x y w7).mono ?_
  rintro r w8 ⟨rfl, hb⟩
  have H8 := Lib.hid (H7.out.below hb)
  clear hb
  go_wp2_with fail
  refine (used_none w8).mono ?_
  rintro r w8' ⟨rfl, rfl⟩
  go_wp2_with fail
  refine (room_none _).mono ?_
  rintro r w9 ⟨rfl, ha⟩
  have H9 := Lib.hid (H8.out.ali ha)
  obtain ⟨d0, d1⟩ := rcells (kb_below HD.out H9.out.low)
  clear ha
  go_wp2_with fail
  refine (all_none w9).mono ?_
  rintro r w9' ⟨rfl, rfl⟩
  go_wp2_with fail
  refine (made_any x y _).mono ?_
  rintro r w10 ⟨rfl, hb⟩
  have H10 := Lib.hid (H9.out.below hb)
  clear hb d0 d1
  have ht := take_all b m 0 [] x y w10 H10.out.prm hx
  rw [show acc1 0 (x, y) [] = false from rfl, show ins1 0 (x, y) [] = [] from rfl] at ht
  go_wp2_with fail
  refine ht.mono ?_
  clear ht
  rintro r w11 ⟨rfl, hf, hp⟩
  have H11 := Lib.hid (H10.out.after hf hp)
  clear hf hp
  have ht := room_prm b m 0 [] w11 H11.out.prm
  rw [show decide (([] : List Hol).length < 0) = false from rfl] at ht
  go_wp2_with fail
  refine ht.mono ?_
  clear ht
  rintro r w12 ⟨rfl, ha⟩
  have H12 := Lib.hid (H11.out.ali ha)
  clear ha
  go_wp2_with fail
  refine (used_prm b m 0 [] w12 H12.out.prm).mono ?_
  rintro r w13 ⟨rfl, rfl⟩
  go_wp2
  go_ret
  exact ⟨rfl, HB.out.trans (H12.out.low.mono HB.out.size)⟩

set_option maxRecDepth 100000 in
theorem lifted (os : Os) (started : os.Started) (H : Type) (enc : TypeId × Value → H) :
    ReturnsInHanded {} Try.checked os 8 .any (Rows.permitNobodySpec.pre6 enc Try.prog Try.f8 Rows.permitNobodyRow.domain false) (Rows.permitNobodySpec.post enc Try.prog Try.f8 false true false false) := by
  refine returnsInHanded_of_change_sized (C := Try.checked) own started (by kernel_rfl) Try.func8
    (ChangeSpec.witness6 (enc := enc) (C := Try.checked) false ⟨#[], #[.agg #[.int .i64 0, .int .i64 0]], []⟩ 8 (by kernel_rfl) (by kernel_rfl) (by kernel_rfl) (by kernel_rfl)) ?_
  intro W base args ds gs before hval0 hW hcnd hsz0 _
  have hval : ∀ (j : Nat) t v, Try.f8.params[j]? = some t → args[j]? = some v → Value.okWide Try.prog W .any base t v := hval0
  have hsz : (DataW.weightsEach Try.prog (Try.f8.params.toList ++ Rows.permitNobodySpec.plain.varTypes Try.prog) (ds ++ gs)).all (· ≤ reachBytes) = true := hsz0
  have hW' := hW
  obtain ⟨p, q, hA0, hV, rfl, hfz, hnd⟩ := hW
  have hA : DataW.TrodAll enc Try.prog W 0 (fun _ => true) true Try.f8.params.toList args.toList ds p := hA0
  rw [Try.params8] at hA hval hsz
  have hAk := hA
  obtain ⟨v0, vs0, d0, ds0, p0, q0, hargs, rfl, rfl, h0, r0⟩ := trodAll_cons hA
  obtain ⟨rfl, rfl, rfl⟩ := trodAll_nil r0
  obtain rfl : args = #[v0] := by cases args; simp_all
  obtain ⟨rfl, rfl⟩ := trodVars_none hV
  obtain ⟨c0, rfl, w0⟩ := open_flat (ks := [.int .i64, .int .i64]) 8 (by kernel_rfl) (by kernel_rfl) (hval 0 24 v0 rfl rfl) h0
  clear hA0 hval0 hsz0
  refine (walk W c0 w0).mono fun e W' ⟨he, bel⟩ => ?_
  subst he
  exact ⟨_, rfl, _, _, _, [], _, [], hW', trodAll_mk1 (shut_bool Try.underlying4 _), trodAll_below laidOut bel _ _ _ _ (by kernel_rfl) hAk, rfl, bel.frame _, fun h => by cases h⟩

theorem over : Rows.permitNobodyRow.holds Try.pinned (OpenSpec.ofChange Rows.permitNobodySpec) :=
  OpenClaim.holds_of_wide 8 Try.f8 rfl rfl rfl rfl rfl rfl rfl ⟨rfl, rfl, rfl, rfl, rfl⟩ rfl rfl rfl rfl rfl (by kernel_rfl) Try.func8 (by kernel_rfl)
    (of_decide_eq_true (by kernel_rfl)) (by unfold Func.isWrapper; first | (rw [if_pos (by decide +kernel)]; kernel_rfl) | (rw [if_neg (by decide +kernel)]; exact ⟨rfl, rfl⟩))
    (fun os started H enc _ => lifted os started H enc)

theorem proved : Rows.PermitNobodySaid := over
#print axioms proved
end Go.Proofs.Ytikocninbbkgdaa.permitNobody
