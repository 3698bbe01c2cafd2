/- What is proved: HealthSums of porpoiselaw16 answers true for every input, and leaves its arguments as they were; conditions: those of the given row alone. -/
import Derived.Test.YtfncipoiblieeaaKit
import Derived.Test.YtfncipoiblieeaaLaw16
import Derived.Test.YtfncipoiblieeaaRef16
namespace Go.Proofs.Ytfncipoiblieeaa.healthSums
open Go.ChangeShapes Go.WideShapes Go.ChangeAt Go.RowKit Go.Deep
open Go.ChangeMaps (open_string shut_string)
set_option linter.unusedVariables false

theorem own : ownKnob Try.prog.godebug = none := by kernel_rfl
theorem laidOut : laidOutB Try.prog = true := by kernel_rfl

theorem sum4 {k : K5} (h : k.Fits) : sumS [k.c0, k.c1, k.c2, k.c3] = k.vol := by
  have h0 := h.f0; have h1 := h.f1; have h2 := h.f2; have h3 := h.f3
  rw [K5.vol_is h]
  unfold sumS addS
  simp only [List.foldl]
  repeat' split
  all_goals omega

set_option maxRecDepth 100000 in
set_option maxHeartbeats 2000000 in
theorem walk (w : World) (c0 : Array Value) (w0 : Flat [.int .u64, .int .u64, .int .u64, .int .u64, .int .u64] c0.toList) :
    Calls Try.prog 8 #[.agg c0] w fun e w' => e = .returned (.bool true) ∧ Below w.heap.size w w' := by
  obtain ⟨k, rfl, hk⟩ := k5_flat w0
  clear w0
  obtain ⟨g, hg⟩ : ∃ g, w.heap.size = g := ⟨_, rfl⟩
  have HG := Lib.hid hg
  have HSK := Lib.hid (sizeK5 k)
  have HE := Lib.hid (fun v => errors_any k v hk)
  have HV := Lib.hid (fun v => volume_any k v hk)
  have H4 := Lib.hid (sum4 hk)
  have h0 := hk.f0; have h1 := hk.f1; have h2 := hk.f2; have h3 := hk.f3
  have he := K5.errs_is hk
  have hv := K5.vol_is hk
  have l1 : k.errs ≤ k.vol := by rw [he, hv]; repeat' split
                                 all_goals omega
  have l2 : k.c1 ≤ k.errs := by rw [he]; split <;> omega
  have l3 : k.c2 ≤ k.errs := by rw [he]; split <;> omega
  have l4 : k.c3 ≤ k.errs := by rw [he]; split <;> omega
  have l5 : k.c0 ≤ k.vol := by rw [hv]; split <;> omega
  have HRow : Hid (∀ v : World, v.heap[g]? = some (vobj 23 k.vals) → Row .u64 v (some ⟨g, 0, none⟩) 4 [k.c0, k.c1, k.c2, k.c3]) := Lib.hid (fun v hv => by
    refine ⟨Nat.le_refl _, by decide, .inr ⟨_, _, rfl, fun j hj => ?_⟩, ?_⟩
    · obtain ⟨p0, p1, p2, p3, _⟩ := cells5 hv
      rw [Nat.zero_add]
      have hj' : j < 4 := hj
      rcases (show j = 0 ∨ j = 1 ∨ j = 2 ∨ j = 3 by omega) with rfl | rfl | rfl | rfl <;> assumption
    · intro n hn
      simp only [List.mem_cons, List.not_mem_nil, or_false] at hn
      rcases hn with rfl | rfl | rfl | rfl
      all_goals exact WalkArith.wf_u64 (by omega))
  have HC := Lib.hid (fun (v : World) (h : v.heap[g]? = some (vobj 23 k.vals)) => cells5 h)
  clear he hv
  generalize k.vol = vo at *
  generalize k.errs = er at *
  generalize k.vals = kv at *
  generalize k.c0 = x0 at *
  generalize k.c1 = x1 at *
  generalize k.c2 = x2 at *
  generalize k.c3 = x3 at *
  have HS : Hid (∀ v, v.heap[g]? = some (vobj 23 kv) → Calls Try.prog 24 #[.slice (some ⟨g, 0, none⟩) 4 5] v fun e w' => e = .returned (.int .u64 vo) ∧ v = w') := Lib.hid (fun v hv => by
    have := rsum_any (some ⟨g, 0, none⟩) 4 5 [x0, x1, x2, x3] v (HRow.out v hv)
    rw [show [x0, x1, x2, x3].take 4 = [x0, x1, x2, x3] from rfl, H4.out] at this
    exact this)
  go_enter Try.func8, Try.ntmps8
  go_wp2_with (refine wpList_box_agg rfl 23 _ rfl g hg kv rfl ?_; intro w1 h1 b1 s1)
  refine (awake16_any _).mono ?_
  rintro r w3 ⟨rfl, b3⟩
  have h3 := kb_below h1 b3
  have B3 := Lib.hid (b1.trans (b3.mono (by omega : g ≤ w1.heap.size)))
  clear b3 h1 b1 s1
  go_wp2_with (refine wpList_load_agg rfl 23 _ rfl g rfl kv h3 _ undK rfl HSK.out ?_)
  refine (HE.out _).mono ?_
  rintro r w4 ⟨rfl, b4⟩
  have h4 := kb_below h3 b4
  have B4 := Lib.hid (B3.out.trans (b4.mono (by have := B3.out.size; omega : g ≤ w3.heap.size)))
  clear b4 h3 B3
  go_wp2_with (refine wpList_load_agg rfl 23 _ rfl g rfl kv h4 _ undK rfl HSK.out ?_)
  refine (HV.out _).mono ?_
  rintro r w5 ⟨rfl, b5⟩
  have h5 := kb_below h4 b5
  have B5 := Lib.hid (B4.out.trans (b5.mono (by have := B4.out.size; omega : g ≤ w4.heap.size)))
  clear b5 h4 B4
  obtain ⟨p0, p1, p2, p3, p4⟩ := HC.out _ h5
  have hs := HS.out _ h5
  go_wp2_with fail
  refine hs.mono ?_
  clear hs
  rintro r w6 ⟨rfl, rfl⟩
  go_wp2
  go_ret
  refine ⟨rfl, ?_⟩
  try rw [HG.out]
  exact B5.out

set_option maxRecDepth 100000 in
theorem lifted (os : Os) (started : os.Started) (H : Type) (enc : TypeId × Value → H) :
    ReturnsInHanded {} Try.checked os 8 .any (Rows.healthSumsSpec.pre6 enc Try.prog Try.f8 Rows.healthSumsRow.domain false) (Rows.healthSumsSpec.post enc Try.prog Try.f8 false true false false) := by
  refine returnsInHanded_of_change_sized (C := Try.checked) own started (by kernel_rfl) Try.func8
    (ChangeSpec.witness6 (enc := enc) (C := Try.checked) false ⟨#[], #[.agg #[.int .u64 0, .int .u64 0, .int .u64 0, .int .u64 0, .int .u64 0]], []⟩ 8 (by kernel_rfl) (by kernel_rfl) (by kernel_rfl) (by kernel_rfl)) ?_
  intro W base args ds gs before hval0 hW hcnd hsz0 _
  have hval : ∀ (j : Nat) t v, Try.f8.params[j]? = some t → args[j]? = some v → Value.okWide Try.prog W .any base t v := hval0
  have hsz : (DataW.weightsEach Try.prog (Try.f8.params.toList ++ Rows.healthSumsSpec.plain.varTypes Try.prog) (ds ++ gs)).all (· ≤ reachBytes) = true := hsz0
  have hW' := hW
  obtain ⟨p, q, hA0, hV, rfl, hfz, hnd⟩ := hW
  have hA : DataW.TrodAll enc Try.prog W 0 (fun _ => true) true Try.f8.params.toList args.toList ds p := hA0
  rw [Try.params8] at hA hval hsz
  have hAk := hA
  obtain ⟨v0, vs0, d0, ds0, p0, q0, hargs, rfl, rfl, h0, r0⟩ := trodAll_cons hA
  obtain ⟨rfl, rfl, rfl⟩ := trodAll_nil r0
  obtain rfl : args = #[v0] := by cases args; simp_all
  obtain ⟨rfl, rfl⟩ := trodVars_none hV
  obtain ⟨c0, rfl, w0⟩ := open_flat (ks := [.int .u64, .int .u64, .int .u64, .int .u64, .int .u64]) 8 (by kernel_rfl) (by kernel_rfl) (hval 0 23 v0 rfl rfl) h0
  clear hA0 hval0 hsz0
  refine (walk W c0 w0).mono fun e W' ⟨he, bel⟩ => ?_
  subst he
  exact ⟨_, rfl, _, _, _, [], _, [], hW', trodAll_mk1 (shut_bool Try.underlying4 _), trodAll_below laidOut bel _ _ _ _ (by kernel_rfl) hAk, rfl, bel.frame _, fun h => by cases h⟩

theorem over : Rows.healthSumsRow.holds Try.pinned (OpenSpec.ofChange Rows.healthSumsSpec) :=
  OpenClaim.holds_of_wide 8 Try.f8 rfl rfl rfl rfl rfl rfl rfl ⟨rfl, rfl, rfl, rfl, rfl⟩ rfl rfl rfl rfl rfl (by kernel_rfl) Try.func8 (by kernel_rfl)
    (of_decide_eq_true (by kernel_rfl)) (by unfold Func.isWrapper; first | (rw [if_pos (by decide +kernel)]; kernel_rfl) | (rw [if_neg (by decide +kernel)]; exact ⟨rfl, rfl⟩))
    (fun os started H enc _ => lifted os started H enc)

theorem proved : Rows.HealthSumsSaid := over
#print axioms proved
end Go.Proofs.Ytfncipoiblieeaa.healthSums
