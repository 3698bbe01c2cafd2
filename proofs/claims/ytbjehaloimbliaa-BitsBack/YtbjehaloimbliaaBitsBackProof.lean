/- What is proved: BitsBack of porpoiselaw02 answers true for every input, and leaves its arguments as they were; conditions: those of the given row alone. -/
import Derived.Test.YtbjehaloimbliaaKit
import Derived.Test.YtbjehaloimbliaaRef02
namespace Go.Proofs.Ytbjehaloimbliaa.bitsBack
open Go.ChangeShapes Go.WideShapes Go.ChangeAt Go.RowKit Go.Deep
open Go.ChangeMaps (open_string shut_string)
set_option linter.unusedVariables false

theorem own : ownKnob Try.prog.godebug = none := by kernel_rfl
theorem laidOut : laidOutB Try.prog = true := by kernel_rfl

theorem wf_byte (y : Int) : (Lit.int .u8 (y % 256)).wf = true := by
  have := wf_wrap .u8 y
  rwa [IntKind.wrap_u8] at this
theorem eight (x : Int) (h : 0 ≤ x) (h' : x ≤ 18446744073709551615) : ∃ y0 y1 y2 y3 y4 y5 y6 y7 : Int, Hid (bytesA x = #[.int .u8 y0, .int .u8 y1, .int .u8 y2, .int .u8 y3, .int .u8 y4, .int .u8 y5, .int .u8 y6, .int .u8 y7]) ∧
    Hid (fromS [y0, y1, y2, y3, y4, y5, y6, y7] = x) ∧ Hid (∀ n ∈ [y0, y1, y2, y3, y4, y5, y6, y7], (Lit.int .u8 n).wf = true) := by
  refine ⟨_, _, _, _, _, _, _, _, Lib.hid rfl, Lib.hid (fromS_bytes h h'), Lib.hid ?_⟩
  intro n hn
  simp only [List.mem_cons, List.not_mem_nil, or_false] at hn
  rcases hn with rfl | rfl | rfl | rfl | rfl | rfl | rfl | rfl
  all_goals exact wf_byte _
theorem nar_self {x : Int} (h : -2147483648 ≤ x) (h' : x ≤ 2147483647) : narS x = x := by unfold narS; omega
theorem top' {x : Int} (h : 0 < x) (h' : x ≤ 18446744073709551615) : x / 2 ^ ((lenS x).toNat - 1) = 1 := by
  have := lenS_top h h'
  rwa [show (lenS x - 1).toNat = (lenS x).toNat - 1 by omega] at this

theorem walk (w : World) (a0 : Int) (w0 : (Lit.int .u64 a0).wf = true) (a1 : Int) (w1 : (Lit.int .i32 a1).wf = true) :
    Calls Try.prog 5 #[.int .u64 a0, .int .i32 a1] w fun e w' => e = .returned (.bool true) ∧ Below w.heap.size w w' := by
  have b0 := wf_u64 w0
  have b1 := bounds_i32 w1
  clear w0 w1
  obtain ⟨y0, y1, y2, y3, y4, y5, y6, y7, hy, hf, hw⟩ := eight a0 b0.1 b0.2
  have hn := Lib.hid (nar_self b1.1 b1.2)
  have hl := lenS_bd b0.1 b0.2
  by_cases hz : 0 < a0
  · have hp := lenS_pos hz
    have q1 : (a0 == 0) = false := by rw [beq_eq_false_iff_ne]; omega
    have q2 : (lenS a0 == 0) = false := by rw [beq_eq_false_iff_ne]; omega
    have q3 := top' hz b0.2
    go_enter Try.func5, Try.ntmps5
    go_wp2_with (first | (go_at_call 9; refine (awake_any _).mono ?_; rintro e w' ⟨rfl, rfl⟩))
    refine (bytes_any _ _ b0.1 b0.2).mono ?_
    rintro e w1 ⟨rfl, hb1⟩
    rw [hy.out]
    go_wp2_with fail
    refine (narrow_any _ _ (by omega) (by omega)).mono ?_
    rintro e w' ⟨rfl, rfl⟩
    rw [hn.out]
    go_wp2_with fail
    refine (len_any _ _ (by omega) (by omega)).mono ?_
    rintro e w' ⟨rfl, rfl⟩
    go_wp2_with fail
    refine (from_any _ _ _ [y0, y1, y2, y3, y4, y5, y6, y7] _ ⟨by simp, by decide, .inr ⟨_, _, rfl, ?_⟩, hw.out⟩ (by decide) (by decide)).mono ?_
    · intro j hj
      simp at hj
      match j, hj with
      | 0, _ => simp [go_sem]
      | 1, _ => simp [go_sem]
      | 2, _ => simp [go_sem]
      | 3, _ => simp [go_sem]
      | 4, _ => simp [go_sem]
      | 5, _ => simp [go_sem]
      | 6, _ => simp [go_sem]
      | 7, _ => simp [go_sem]
    rintro e w' ⟨rfl, rfl⟩
    rw [show List.take 8 [y0, y1, y2, y3, y4, y5, y6, y7] = [y0, y1, y2, y3, y4, y5, y6, y7] from rfl, hf.out]
    go_wp2
    go_ret
    exact ⟨ret_bool (by simp), (((Below.refl _ _).alloc (Nat.le_refl _) _).trans (hb1.mono (by simp))).alloc (by have := hb1.size; simp at this; omega) _⟩
  · obtain rfl : a0 = 0 := by omega
    have q4 := Lib.hid lenS_zero
    go_enter Try.func5, Try.ntmps5
    go_wp2_with (first | (go_at_call 9; refine (awake_any _).mono ?_; rintro e w' ⟨rfl, rfl⟩))
    refine (bytes_any _ _ b0.1 b0.2).mono ?_
    rintro e w1 ⟨rfl, hb1⟩
    rw [hy.out]
    go_wp2_with fail
    refine (narrow_any _ _ (by omega) (by omega)).mono ?_
    rintro e w' ⟨rfl, rfl⟩
    rw [hn.out]
    go_wp2_with fail
    refine (len_any _ _ (by omega) (by omega)).mono ?_
    rintro e w' ⟨rfl, rfl⟩
    rw [q4.out]
    go_wp2_with fail
    refine (from_any _ _ _ [y0, y1, y2, y3, y4, y5, y6, y7] _ ⟨by simp, by decide, .inr ⟨_, _, rfl, ?_⟩, hw.out⟩ (by decide) (by decide)).mono ?_
    · intro j hj
      simp at hj
      match j, hj with
      | 0, _ => simp [go_sem]
      | 1, _ => simp [go_sem]
      | 2, _ => simp [go_sem]
      | 3, _ => simp [go_sem]
      | 4, _ => simp [go_sem]
      | 5, _ => simp [go_sem]
      | 6, _ => simp [go_sem]
      | 7, _ => simp [go_sem]
    rintro e w' ⟨rfl, rfl⟩
    rw [show List.take 8 [y0, y1, y2, y3, y4, y5, y6, y7] = [y0, y1, y2, y3, y4, y5, y6, y7] from rfl, hf.out]
    go_wp2
    go_ret
    exact ⟨ret_bool (by simp), (((Below.refl _ _).alloc (Nat.le_refl _) _).trans (hb1.mono (by simp))).alloc (by have := hb1.size; simp at this; omega) _⟩

set_option maxRecDepth 100000 in
theorem lifted (os : Os) (started : os.Started) (H : Type) (enc : TypeId × Value → H) :
    ReturnsInHanded {} Try.checked os 5 .any (Rows.bitsBackSpec.pre6 enc Try.prog Try.f5 Rows.bitsBackRow.domain false) (Rows.bitsBackSpec.post enc Try.prog Try.f5 false true false false) := by
  refine returnsInHanded_of_change_sized (C := Try.checked) own started (by kernel_rfl) Try.func5
    (ChangeSpec.witness6 (enc := enc) (C := Try.checked) false ⟨#[], #[.int .u64 0, .int .i32 0], []⟩ 8 (by kernel_rfl) (by kernel_rfl) (by kernel_rfl) (by kernel_rfl)) ?_
  intro W base args ds gs before hval0 hW hcnd hsz0 _
  have hval : ∀ (j : Nat) t v, Try.f5.params[j]? = some t → args[j]? = some v → Value.okWide Try.prog W .any base t v := hval0
  have hsz : (DataW.weightsEach Try.prog (Try.f5.params.toList ++ Rows.bitsBackSpec.plain.varTypes Try.prog) (ds ++ gs)).all (· ≤ reachBytes) = true := hsz0
  have hW' := hW
  obtain ⟨p, q, hA0, hV, rfl, hfz, hnd⟩ := hW
  have hA : DataW.TrodAll enc Try.prog W 0 (fun _ => true) true Try.f5.params.toList args.toList ds p := hA0
  rw [Try.params5] at hA hval hsz
  have hAk := hA
  obtain ⟨v0, vs0, d0, ds0, p0, q0, hargs, rfl, rfl, h0, r0⟩ := trodAll_cons hA
  obtain ⟨v1, vs1, d1, ds1, p1, q1, rfl, rfl, rfl, h1, r1⟩ := trodAll_cons r0
  obtain ⟨rfl, rfl, rfl⟩ := trodAll_nil r1
  obtain rfl : args = #[v0, v1] := by cases args; simp_all
  obtain ⟨rfl, rfl⟩ := trodVars_none hV
  obtain ⟨a0, rfl, rfl, rfl, w0⟩ := open_int Try.underlying22 (hval 0 22 v0 rfl rfl) h0
  obtain ⟨a1, rfl, rfl, rfl, w1⟩ := open_int Try.underlying21 (hval 1 21 v1 rfl rfl) h1
  clear hA0 hval0 hsz0
  refine (walk W a0 w0 a1 w1).mono fun e W' ⟨he, bel⟩ => ?_
  subst he
  exact ⟨_, rfl, _, _, _, [], _, [], hW', trodAll_mk1 (shut_bool Try.underlying4 _), trodAll_below laidOut bel _ _ _ _ (by kernel_rfl) hAk, rfl, bel.frame _, fun h => by cases h⟩

theorem over : Rows.bitsBackRow.holds Try.pinned (OpenSpec.ofChange Rows.bitsBackSpec) :=
  OpenClaim.holds_of_wide 5 Try.f5 rfl rfl rfl rfl rfl rfl rfl ⟨rfl, rfl, rfl, rfl, rfl⟩ rfl rfl rfl rfl rfl (by kernel_rfl) Try.func5 (by kernel_rfl)
    (of_decide_eq_true (by kernel_rfl)) (by unfold Func.isWrapper; first | (rw [if_pos (by decide +kernel)]; kernel_rfl) | (rw [if_neg (by decide +kernel)]; exact ⟨rfl, rfl⟩))
    (fun os started H enc _ => lifted os started H enc)

theorem proved : Rows.BitsBackSaid := over
#print axioms proved
end Go.Proofs.Ytbjehaloimbliaa.bitsBack
