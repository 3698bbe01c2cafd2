/- What is proved: HistRises of porpoiselaw07 answers true for every input, and leaves its arguments as they were; conditions: those of the given row alone. -/
import Derived.Test.YtpheifdneafkhaaKit
import Derived.Test.YtpheifdneafkhaaLaw07
namespace Go.Proofs.Ytpheifdneafkhaa.histRises
open Go.ChangeShapes Go.WideShapes Go.ChangeAt Go.RowKit Go.Deep
open Go.ChangeMaps (open_string shut_string)
set_option linter.unusedVariables false

theorem own : ownKnob Try.prog.godebug = none := by kernel_rfl
theorem laidOut : laidOutB Try.prog = true := by kernel_rfl

theorem rises (zs : List Int) (hz : ∀ z ∈ zs, 0 ≤ z ∧ z ≤ 18446744073709551615) (h : zs.length ≤ 100) {p p' : Int} (hpp : p ≤ p') :
    pctB (cntL (binsOf zs)) (clampP p) = decide (0 < zs.length) ∧ pctB (cntL (binsOf zs)) (clampP p') = decide (0 < zs.length) ∧ pctX (cntL (binsOf zs)) (clampP p) ≤ pctX (cntL (binsOf zs)) (clampP p') := by
  have hl : (binsOf zs).length ≤ 1000 := by rw [binsOf_len]; omega
  have hK := binsOf_lt hz
  by_cases h0 : 0 < zs.length
  · have b := clampP_bd p
    have b' := clampP_bd p'
    obtain ⟨i, hi⟩ := pct_there hl hK (by rw [binsOf_len]; exact h0) b.1 b.2
    obtain ⟨i', hi'⟩ := pct_there hl hK (by rw [binsOf_len]; exact h0) b'.1 b'.2
    have := pct_rises hl hK b.1 (show clampP p ≤ clampP p' by unfold clampP; split <;> split <;> (try split) <;> (try split) <;> omega) hi hi'
    unfold pctB pctX
    rw [hi, hi']
    exact ⟨by simp [h0], by simp [h0], topN_mono this⟩
  · have e : zs = [] := List.eq_nil_of_length_eq_zero (by omega)
    subst e
    have : ∀ q, pctN (cntL (binsOf [])) q = none := fun q => pct_empty q
    unfold pctB pctX
    rw [this, this]
    simp

set_option maxRecDepth 100000 in
set_option maxHeartbeats 2000000 in
theorem walk (w : World) (a0 : Option Addr) (l0 k0 : Nat) (L0 : List (List Value)) (w0 : SliceIn w [.int .u64] 8 a0 l0 k0 L0) (a1 : Int) (w1 : (Lit.int .u8 a1).wf = true) (a2 : Int) (w2 : (Lit.int .u8 a2).wf = true) :
    Calls Try.prog 5 #[.slice a0 l0 k0, .int .u8 a1, .int .u8 a2] w fun e w' => e = .returned (.bool true) ∧ Below w.heap.size w w' := by
  obtain ⟨zs, hzl, hrow⟩ := w0.row
  have b1 := bounds_u8 w1
  have b2 := bounds_u8 w2
  have hz : ∀ z ∈ zs.take 100, 0 ≤ z ∧ z ≤ 18446744073709551615 := fun z hz => wf_u64 (hrow.2.2.2 z (List.mem_of_mem_take hz))
  have hml := hrow.2.1
  unfold maxLen at hml
  obtain ⟨lo, hlo⟩ : ∃ lo, (if a2 < a1 then a2 else a1) = lo := ⟨_, rfl⟩
  obtain ⟨hi, hhi⟩ : ∃ hi, (if a1 < a2 then a2 else a1) = hi := ⟨_, rfl⟩
  have hlo' : (if a1 < a2 then a1 else a2) = lo := by rw [← hlo]; split <;> split <;> omega
  have hhi' : (if a2 < a1 then a1 else a2) = hi := by rw [← hhi]; split <;> split <;> omega
  have hlb : 0 ≤ lo ∧ lo ≤ 255 := by rw [← hlo]; split <;> omega
  have hhb : 0 ≤ hi ∧ hi ≤ 255 := by rw [← hhi]; split <;> omega
  have hlh : lo ≤ hi := by rw [← hlo, ← hhi]; split <;> split <;> omega
  have hr := rises (zs.take 100) hz (by rw [List.length_take]; omega) hlh
  have hlen : decide (0 < (zs.take 100).length) = decide (0 < l0) := by rw [List.length_take, hzl]; rw [decide_eq_decide]; omega
  rw [hlen] at hr
  have hnl : (notes (zs.take 100)).length ≤ 1000 := by rw [notes_len, List.length_take]; omega
  have htn := told_notes (zs.take 100)
  obtain ⟨x, hx⟩ : ∃ x, pctX (cntL (binsOf (zs.take 100))) (clampP lo) = x := ⟨_, rfl⟩
  obtain ⟨y, hy⟩ : ∃ y, pctX (cntL (binsOf (zs.take 100))) (clampP hi) = y := ⟨_, rfl⟩
  have hxy : x ≤ y := by rw [← hx, ← hy]; exact hr.2.2
  have HX := Lib.hid hx
  have HY := Lib.hid hy
  have HI := Lib.hid hr.1
  have HW := Lib.hid hr.2.1
  have HZL := Lib.hid hzl
  have HROW := Lib.hid hrow
  have HNL := Lib.hid hnl
  have HTN := Lib.hid htn
  clear w0 w1 w2 hz hr hlen hx hy hzl hrow hnl htn
  go_enter Try.func5, Try.ntmps5
  go_wp2_with fail
  refine (awake_any _).mono ?_
  rintro r wa ⟨rfl, hba⟩
  have HA := Lib.hid hba
  clear hba
  go_wp2_with fail
  refine (noted_any w wa a0 l0 k0 zs HROW.out HZL.out HA.out).mono ?_
  rintro r w1 ⟨b, rfl, h1⟩
  have H1 := Lib.hid h1
  clear h1
  go_wp2_with fail
  refine (oh_pct w b 2 10 0 5 lo _ w1 0 _ x _ H1.out (by omega) (by omega) (by omega) rfl HTN.out HNL.out HX.out HI.out).mono ?_
  rintro r w2 ⟨rfl, _, h2⟩
  have H2 := Lib.hid h2
  clear h2
  go_wp2_with fail
  refine (oh_pct w b 2 10 0 5 hi _ w2 0 _ y _ H2.out (by omega) (by omega) (by omega) rfl HTN.out HNL.out HY.out HW.out).mono ?_
  rintro r w3 ⟨rfl, _, h3⟩
  have H3 := Lib.hid h3
  clear h3
  by_cases h0 : 0 < l0
  · have h0' : (0 : Int) < (l0 : Int) := by omega
    have hd : decide (0 < l0) = true := by simp [h0]
    rw [hd]
    go_wp2
    go_ret
    exact ⟨rfl, H3.out.low⟩
  · have h0' : ¬ (0 : Int) < (l0 : Int) := by omega
    have hd : decide (0 < l0) = false := by simp [h0]
    rw [hd]
    go_wp2
    go_ret
    exact ⟨rfl, H3.out.low⟩

set_option maxRecDepth 100000 in
theorem lifted (os : Os) (started : os.Started) (H : Type) (enc : TypeId × Value → H) :
    ReturnsInHanded {} Try.checked os 5 .any (Rows.histRisesSpec.pre6 enc Try.prog Try.f5 Rows.histRisesRow.domain false) (Rows.histRisesSpec.post enc Try.prog Try.f5 false true false false) := by
  refine returnsInHanded_of_change_sized (C := Try.checked) own started (by kernel_rfl) Try.func5
    (ChangeSpec.witness6 (enc := enc) (C := Try.checked) false ⟨#[], #[.slice none 0 0, .int .u8 0, .int .u8 0], []⟩ 8 (by kernel_rfl) (by kernel_rfl) (by kernel_rfl) (by kernel_rfl)) ?_
  intro W base args ds gs before hval0 hW hcnd hsz0 _
  have hval : ∀ (j : Nat) t v, Try.f5.params[j]? = some t → args[j]? = some v → Value.okWide Try.prog W .any base t v := hval0
  have hsz : (DataW.weightsEach Try.prog (Try.f5.params.toList ++ Rows.histRisesSpec.plain.varTypes Try.prog) (ds ++ gs)).all (· ≤ reachBytes) = true := hsz0
  have hW' := hW
  obtain ⟨p, q, hA0, hV, rfl, hfz, hnd⟩ := hW
  have hA : DataW.TrodAll enc Try.prog W 0 (fun _ => true) true Try.f5.params.toList args.toList ds p := hA0
  rw [Try.params5] at hA hval hsz
  have hAk := hA
  obtain ⟨v0, vs0, d0, ds0, p0, q0, hargs, rfl, rfl, h0, r0⟩ := trodAll_cons hA
  obtain ⟨v1, vs1, d1, ds1, p1, q1, rfl, rfl, rfl, h1, r1⟩ := trodAll_cons r0
  obtain ⟨v2, vs2, d2, ds2, p2, q2, rfl, rfl, rfl, h2, r2⟩ := trodAll_cons r1
  obtain ⟨rfl, rfl, rfl⟩ := trodAll_nil r2
  obtain rfl : args = #[v0, v1, v2] := by cases args; simp_all
  obtain ⟨rfl, rfl⟩ := trodVars_none hV
  obtain ⟨a0, l0, k0, L0, rfl, w0⟩ := open_slice_flat (ks := [.int .u64]) (bytes := 8) 8 Try.underlying32 (by kernel_rfl) (by kernel_rfl) (by decide) (by kernel_rfl) (hval 0 32 v0 rfl rfl) h0 (fun elems rest hd => by subst hd; exact sized_slice hsz (j := 0) (t := 32) (e := 22) rfl rfl Try.underlying32)
  obtain ⟨a1, rfl, rfl, rfl, w1⟩ := open_int Try.underlying5 (hval 1 5 v1 rfl rfl) h1
  obtain ⟨a2, rfl, rfl, rfl, w2⟩ := open_int Try.underlying5 (hval 2 5 v2 rfl rfl) h2
  clear hA0 hval0 hsz0
  refine (walk W a0 l0 k0 L0 w0 a1 w1 a2 w2).mono fun e W' ⟨he, bel⟩ => ?_
  subst he
  exact ⟨_, rfl, _, _, _, [], _, [], hW', trodAll_mk1 (shut_bool Try.underlying4 _), trodAll_below laidOut bel _ _ _ _ (by kernel_rfl) hAk, rfl, bel.frame _, fun h => by cases h⟩

theorem over : Rows.histRisesRow.holds Try.pinned (OpenSpec.ofChange Rows.histRisesSpec) :=
  OpenClaim.holds_of_wide 5 Try.f5 rfl rfl rfl rfl rfl rfl rfl ⟨rfl, rfl, rfl, rfl, rfl⟩ rfl rfl rfl rfl rfl (by kernel_rfl) Try.func5 (by kernel_rfl)
    (of_decide_eq_true (by kernel_rfl)) (by unfold Func.isWrapper; first | (rw [if_pos (by decide +kernel)]; kernel_rfl) | (rw [if_neg (by decide +kernel)]; exact ⟨rfl, rfl⟩))
    (fun os started H enc _ => lifted os started H enc)

theorem proved : Rows.HistRisesSaid := over
#print axioms proved
end Go.Proofs.Ytpheifdneafkhaa.histRises
