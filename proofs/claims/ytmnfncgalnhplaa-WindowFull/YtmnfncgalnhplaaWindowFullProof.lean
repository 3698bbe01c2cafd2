/- What is proved: WindowFull of porpoiselaw06 answers true for every input, and leaves its arguments as they were; conditions: those of the given row alone. -/
import Derived.Test.YtmnfncgalnhplaaKit
import Derived.Test.YtmnfncgalnhplaaLaw06
import Derived.Deep.RegionHeld3
namespace Go.Proofs.Ytmnfncgalnhplaa.windowFull
open Go.ChangeShapes Go.WideShapes Go.ChangeAt Go.RowKit Go.Deep
open Go.ChangeMaps (open_string shut_string)
set_option linter.unusedVariables false

theorem own : ownKnob Try.prog.godebug = none := by kernel_rfl
theorem laidOut : laidOutB Try.prog = true := by kernel_rfl

theorem two_tot (k : Nat) (a b : Int) (ha : 0 ≤ a ∧ a ≤ 18446744073709551615) (hb : 0 ≤ b ∧ b ≤ 18446744073709551615) : tot (upd (upd (fun _ _ => 0) 0 k a) 1 k b) 1 k 2 = a + b ∧ tot (upd (upd (fun _ _ => 0) 0 k a) 1 k b) 2 k 2 = b := by
  constructor
  · simp [tot, sumN, upd]; omega
  · simp [tot, sumN, upd]

set_option maxRecDepth 100000 in
set_option maxHeartbeats 2000000 in
theorem walk (w : World) (a0 : Int) (w0 : (Lit.int .u64 a0).wf = true) (a1 : Int) (w1 : (Lit.int .u64 a1).wf = true) (a2 : Int) (w2 : (Lit.int .u8 a2).wf = true) :
    Calls Try.prog 5 #[.int .u64 a0, .int .u64 a1, .int .u8 a2] w fun e w' => e = .returned (.bool true) ∧ Below w.heap.size w w' := by
  have b0 := wf_u64 w0
  have b1 := wf_u64 w1
  have b2 := bounds_u8 w2
  obtain ⟨k, hk⟩ : ∃ k : Nat, a2 % 5 = k := ⟨(a2 % 5).toNat, by omega⟩
  have k5 : k < 5 := by omega
  have h2 := two_tot k a0 a1 b0 b1
  clear w0 w1 w2
  go_enter Try.func5, Try.ntmps5
  go_wp2_with fail
  refine (awake_any _).mono ?_
  rintro r wa ⟨rfl, hba⟩
  have HA := Lib.hid hba
  have H2T := Lib.hid h2
  clear hba h2
  go_wp2_with fail
  refine (ow_new w wa 2 10 (by omega) (by omega) (by omega) (by omega) HA.out).mono ?_
  rintro r w1 ⟨rfl, h1, _⟩
  have H1 := Lib.hid h1
  clear h1
  generalize wa.heap.size = b at *
  go_wp2_with fail
  refine (ow_add w b 2 10 0 1 k a0 _ w1 0 (upd (fun _ _ => 0) 0 k a0) H1.out (by omega) k5 b0.1 b0.2 rfl (by simp [addS, b0.2])).mono ?_
  rintro r w2 ⟨rfl, _, hw⟩
  have H2 := Lib.hid hw
  clear hw
  go_wp2_with fail
  refine (ow_add w b 2 10 0 11 k a1 _ w2 1 (upd (upd (fun _ _ => 0) 0 k a0) 1 k a1) H2.out (by omega) k5 b1.1 b1.2 rfl (by simp [addS, upd, b1.2])).mono ?_
  rintro r w3 ⟨rfl, _, hw⟩
  have H3 := Lib.hid hw
  clear hw
  obtain ⟨c, hc⟩ : ∃ c : Nat → Int, ∀ i, satS (tot (upd (upd (fun _ _ => 0) 0 k a0) 1 k a1) 1 i 2) = c i := ⟨_, fun _ => rfl⟩
  obtain ⟨d, hd⟩ : ∃ d : Nat → Int, ∀ i, satS (tot (upd (upd (fun _ _ => 0) 0 k a0) 1 k a1) 2 i 2) = d i := ⟨_, fun _ => rfl⟩
  have i1 := index5 c k k5 (addS a0 a1) (by rw [← hc, H2T.out.1]; rfl)
  have i2 := index5 d k k5 a1 (by rw [← hd, H2T.out.2]; exact satS_of b1.2)
  have HC := Lib.hid hc
  have HD := Lib.hid hd
  have hra := fun v => radd_any a0 a1 v b0.1 b1.1 b0.2 b1.2
  have HRA := Lib.hid hra
  clear hc hd hra
  generalize addS a0 a1 = s at *
  go_wp2
  go_region_held3 (fun _ => True) (trivial)
    (first
      | (go_at_call 13; refine (HRA.out _).mono ?_; rintro r wB ⟨rfl, rfl⟩)
      | (go_at_call 11; refine (ow_countf w b 2 10 1 20 _ _ 2 d o4 (by omega) rfl (fun i _ => HD.out i)).mono ?_; rintro r wC ⟨rfl, _, o5⟩)
      | (go_at_call 11; refine (ow_countf w b 2 10 1 11 _ _ 1 c (H3.out.ali (drew_ali _)) (by omega) rfl (fun i _ => HC.out i)).mono ?_; rintro r wA ⟨rfl, _, o4⟩))
  all_goals
    have O5 := Lib.hid o5
    clear o4 o5
    go_wp2
    go_ret
    exact ⟨rfl, O5.out.low⟩

set_option maxRecDepth 100000 in
theorem lifted (os : Os) (started : os.Started) (H : Type) (enc : TypeId × Value → H) :
    ReturnsInHanded {} Try.checked os 5 .any (Rows.windowFullSpec.pre6 enc Try.prog Try.f5 Rows.windowFullRow.domain false) (Rows.windowFullSpec.post enc Try.prog Try.f5 false true false false) := by
  refine returnsInHanded_of_change_sized (C := Try.checked) own started (by kernel_rfl) Try.func5
    (ChangeSpec.witness6 (enc := enc) (C := Try.checked) false ⟨#[], #[.int .u64 0, .int .u64 0, .int .u8 0], []⟩ 8 (by kernel_rfl) (by kernel_rfl) (by kernel_rfl) (by kernel_rfl)) ?_
  intro W base args ds gs before hval0 hW hcnd hsz0 _
  have hval : ∀ (j : Nat) t v, Try.f5.params[j]? = some t → args[j]? = some v → Value.okWide Try.prog W .any base t v := hval0
  have hsz : (DataW.weightsEach Try.prog (Try.f5.params.toList ++ Rows.windowFullSpec.plain.varTypes Try.prog) (ds ++ gs)).all (· ≤ reachBytes) = true := hsz0
  have hW' := hW
  obtain ⟨p, q, hA0, hV, rfl, hfz, hnd⟩ := hW
  have hA : DataW.TrodAll enc Try.prog W 0 (fun _ => true) true Try.f5.params.toList args.toList ds p := hA0
  rw [Try.params5] at hA hval hsz
  have hAk := hA
  obtain ⟨v0, vs0, d0, ds0, p0, q0, hargs, rfl, rfl, h0, r0⟩ := trodAll_cons hA
  obtain ⟨v1, vs1, d1, ds1, p1, q1, rfl, rfl, rfl, h1, r1⟩ := trodAll_cons r0
  obtain ⟨v2, vs2, d2, ds2, p2, q2, rfl, rfl, rfl, h2, r2⟩ := trodAll_cons r1
  obtain ⟨rfl, rfl, rfl⟩ := trodAll_nil r2
  obtain rfl : args = #[v0, v1, v2] := by cases args; simp_all
  obtain ⟨rfl, rfl⟩ := trodVars_none hV
  obtain ⟨a0, rfl, rfl, rfl, w0⟩ := open_int Try.underlying26 (hval 0 26 v0 rfl rfl) h0
  obtain ⟨a1, rfl, rfl, rfl, w1⟩ := open_int Try.underlying26 (hval 1 26 v1 rfl rfl) h1
  obtain ⟨a2, rfl, rfl, rfl, w2⟩ := open_int Try.underlying5 (hval 2 5 v2 rfl rfl) h2
  clear hA0 hval0 hsz0
  refine (walk W a0 w0 a1 w1 a2 w2).mono fun e W' ⟨he, bel⟩ => ?_
  subst he
  exact ⟨_, rfl, _, _, _, [], _, [], hW', trodAll_mk1 (shut_bool Try.underlying4 _), trodAll_below laidOut bel _ _ _ _ (by kernel_rfl) hAk, rfl, bel.frame _, fun h => by cases h⟩

theorem over : Rows.windowFullRow.holds Try.pinned (OpenSpec.ofChange Rows.windowFullSpec) :=
  OpenClaim.holds_of_wide 5 Try.f5 rfl rfl rfl rfl rfl rfl rfl ⟨rfl, rfl, rfl, rfl, rfl⟩ rfl rfl rfl rfl rfl (by kernel_rfl) Try.func5 (by kernel_rfl)
    (of_decide_eq_true (by kernel_rfl)) (by unfold Func.isWrapper; first | (rw [if_pos (by decide +kernel)]; kernel_rfl) | (rw [if_neg (by decide +kernel)]; exact ⟨rfl, rfl⟩))
    (fun os started H enc _ => lifted os started H enc)

theorem proved : Rows.WindowFullSaid := over
#print axioms proved
end Go.Proofs.Ytmnfncgalnhplaa.windowFull
