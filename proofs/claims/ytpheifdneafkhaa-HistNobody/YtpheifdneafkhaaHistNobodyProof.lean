/- What is proved: HistNobody of porpoiselaw07 answers true for every input, and leaves its arguments as they were; conditions: those of the given row alone. -/
import Derived.Test.YtpheifdneafkhaaKit
import Derived.Test.YtpheifdneafkhaaLaw07
namespace Go.Proofs.Ytpheifdneafkhaa.histNobody
open Go.ChangeShapes Go.WideShapes Go.ChangeAt Go.RowKit Go.Deep
open Go.ChangeMaps (open_string shut_string)
set_option linter.unusedVariables false

theorem own : ownKnob Try.prog.godebug = none := by kernel_rfl
theorem laidOut : laidOutB Try.prog = true := by kernel_rfl

theorem told_one (q k : Nat) : told q 1 [(q, k)] = List.replicate 1 k := by simp [told]

set_option maxRecDepth 100000 in
set_option maxHeartbeats 2000000 in
theorem walk (w : World) (a0 : Int) (w0 : (Lit.int .u64 a0).wf = true) (a1 : Int) (w1 : (Lit.int .u64 a1).wf = true) (a2 : Int) (w2 : (Lit.int .i64 a2).wf = true) :
    Calls Try.prog 8 #[.int .u64 a0, .int .u64 a1, .int .i64 a2] w fun e w' => e = .returned (.bool true) ∧ Below w.heap.size w w' := by
  have b0 := wf_u64 w0
  have b1 := wf_u64 w1
  have b2 := bounds_i64 w2
  obtain ⟨now, rfl⟩ : ∃ now : Nat, a0 = now := ⟨a0.toNat, by omega⟩
  obtain ⟨k, hk⟩ : ∃ k : Nat, lenS a1 = k := ⟨(lenS a1).toNat, by have := lenS_bd b1.1 b1.2; omega⟩
  have hk64 : k ≤ 64 := by have := lenS_bd b1.1 b1.2; omega
  have HK := Lib.hid hk
  have hcl := clampP_bd a2
  have hps := pct_same (k := k) (n := 1) (by omega) (by omega) (by omega) hcl.1 hcl.2
  have hx : Hid (pctX (cntL (List.replicate 1 k)) (clampP a2) = topN k) := Lib.hid (by unfold pctX; rw [hps])
  have hy : Hid (pctB (cntL (List.replicate 1 k)) (clampP a2) = true) := Lib.hid (by unfold pctB; rw [hps]; rfl)
  have hx0 : Hid (pctX (cntL []) (clampP a2) = 0) := Lib.hid (by unfold pctX; rw [pct_empty])
  have hy0 : Hid (pctB (cntL []) (clampP a2) = false) := Lib.hid (by unfold pctB; rw [pct_empty]; rfl)
  have hts : Hid (topS (k : Int) = topN k) := Lib.hid (topS_nat hk64)
  have hz := same65 z65_ok
  clear w0 w1 w2 hk hcl hps
  go_enter Try.func8, Try.ntmps8
  go_wp2_with fail
  refine (awake_any _).mono ?_
  rintro r wa ⟨rfl, hba⟩
  have HA := Lib.hid hba
  clear hba
  go_wp2_with fail
  refine (hadd_nil _ _ wa).mono ?_
  rintro r wb ⟨rfl, rfl⟩
  go_wp2_with fail
  refine (pct_nil now a2 wb (by omega) (by omega)).mono ?_
  rintro r w1 ⟨rfl, hb⟩
  have HB := Lib.hid (HA.out.trans (hb.mono HA.out.size))
  clear hb
  go_wp2_with fail
  refine (oh_new w w1 1 1 (by omega) (by omega) (by omega) (by omega) HB.out).mono ?_
  rintro r w2 ⟨rfl, h2, _⟩
  have H2 := Lib.hid h2
  clear h2
  generalize w1.heap.size = b at *
  go_wp2_with fail
  refine (oh_pct w b 1 1 0 now a2 _ w2 now [] 0 false H2.out (by omega) (by omega) (by omega) (by simp) rfl (by decide) hx0.out hy0.out).mono ?_
  rintro r w3 ⟨rfl, _, h3⟩
  have H3 := Lib.hid h3
  clear h3
  go_wp2_with fail
  refine (oh_add w b 1 1 now now k a1 _ w3 now [(now, k)] H3.out (by omega) b1.1 b1.2 HK.out (by simp) rfl (by decide)).mono ?_
  rintro r w4 ⟨rfl, _, h4⟩
  have H4 := Lib.hid h4
  clear h4
  go_wp2_with fail
  refine (oh_pct w b 1 1 now now a2 _ w4 now (List.replicate 1 k) (topN k) true H4.out (by omega) (by omega) (by omega) (by simp) (told_one now k) (by simp) hx.out hy.out).mono ?_
  rintro r w5 ⟨rfl, _, h5⟩
  have H5 := Lib.hid h5
  clear h5
  generalize topN k = x at *
  have hbz := zero65
  go_wp2_with (first
    | (go_at_call 18; refine (hall_nil now _).mono ?_; rintro r w6 ⟨rfl, hb⟩; have H6 := Lib.hid (H5.out.below hb); clear hb)
    | (go_at_call 11; refine (bin_any a1 _ b1.1 b1.2).mono ?_; rintro r w7 ⟨rfl, rfl⟩; rw [HK.out])
    | (go_at_call 12; refine (top_any k _ (by omega) (by omega)).mono ?_; rintro r w7 ⟨rfl, rfl⟩; rw [hts.out]))
  go_ret
  exact ⟨rfl, H6.out.low⟩

set_option maxRecDepth 100000 in
theorem lifted (os : Os) (started : os.Started) (H : Type) (enc : TypeId × Value → H) :
    ReturnsInHanded {} Try.checked os 8 .any (Rows.histNobodySpec.pre6 enc Try.prog Try.f8 Rows.histNobodyRow.domain false) (Rows.histNobodySpec.post enc Try.prog Try.f8 false true false false) := by
  refine returnsInHanded_of_change_sized (C := Try.checked) own started (by kernel_rfl) Try.func8
    (ChangeSpec.witness6 (enc := enc) (C := Try.checked) false ⟨#[], #[.int .u64 0, .int .u64 0, .int .i64 0], []⟩ 8 (by kernel_rfl) (by kernel_rfl) (by kernel_rfl) (by kernel_rfl)) ?_
  intro W base args ds gs before hval0 hW hcnd hsz0 _
  have hval : ∀ (j : Nat) t v, Try.f8.params[j]? = some t → args[j]? = some v → Value.okWide Try.prog W .any base t v := hval0
  have hsz : (DataW.weightsEach Try.prog (Try.f8.params.toList ++ Rows.histNobodySpec.plain.varTypes Try.prog) (ds ++ gs)).all (· ≤ reachBytes) = true := hsz0
  have hW' := hW
  obtain ⟨p, q, hA0, hV, rfl, hfz, hnd⟩ := hW
  have hA : DataW.TrodAll enc Try.prog W 0 (fun _ => true) true Try.f8.params.toList args.toList ds p := hA0
  rw [Try.params8] at hA hval hsz
  have hAk := hA
  obtain ⟨v0, vs0, d0, ds0, p0, q0, hargs, rfl, rfl, h0, r0⟩ := trodAll_cons hA
  obtain ⟨v1, vs1, d1, ds1, p1, q1, rfl, rfl, rfl, h1, r1⟩ := trodAll_cons r0
  obtain ⟨v2, vs2, d2, ds2, p2, q2, rfl, rfl, rfl, h2, r2⟩ := trodAll_cons r1
  obtain ⟨rfl, rfl, rfl⟩ := trodAll_nil r2
  obtain rfl : args = #[v0, v1, v2] := by cases args; simp_all
  obtain ⟨rfl, rfl⟩ := trodVars_none hV
  obtain ⟨a0, rfl, rfl, rfl, w0⟩ := open_int Try.underlying22 (hval 0 22 v0 rfl rfl) h0
  obtain ⟨a1, rfl, rfl, rfl, w1⟩ := open_int Try.underlying22 (hval 1 22 v1 rfl rfl) h1
  obtain ⟨a2, rfl, rfl, rfl, w2⟩ := open_int Try.underlying3 (hval 2 3 v2 rfl rfl) h2
  clear hA0 hval0 hsz0
  refine (walk W a0 w0 a1 w1 a2 w2).mono fun e W' ⟨he, bel⟩ => ?_
  subst he
  exact ⟨_, rfl, _, _, _, [], _, [], hW', trodAll_mk1 (shut_bool Try.underlying4 _), trodAll_below laidOut bel _ _ _ _ (by kernel_rfl) hAk, rfl, bel.frame _, fun h => by cases h⟩

theorem over : Rows.histNobodyRow.holds Try.pinned (OpenSpec.ofChange Rows.histNobodySpec) :=
  OpenClaim.holds_of_wide 8 Try.f8 rfl rfl rfl rfl rfl rfl rfl ⟨rfl, rfl, rfl, rfl, rfl⟩ rfl rfl rfl rfl rfl (by kernel_rfl) Try.func8 (by kernel_rfl)
    (of_decide_eq_true (by kernel_rfl)) (by unfold Func.isWrapper; first | (rw [if_pos (by decide +kernel)]; kernel_rfl) | (rw [if_neg (by decide +kernel)]; exact ⟨rfl, rfl⟩))
    (fun os started H enc _ => lifted os started H enc)

theorem proved : Rows.HistNobodySaid := over
#print axioms proved
end Go.Proofs.Ytpheifdneafkhaa.histNobody
