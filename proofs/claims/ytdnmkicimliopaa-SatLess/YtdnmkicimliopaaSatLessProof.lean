/- What is proved: SatLess of porpoiselaw01 answers true for every input, and leaves its arguments as they were; conditions: those of the given row alone. -/
import Derived.Test.YtdnmkicimliopaaKit
import Derived.Test.YtdnmkicimliopaaRef01
namespace Go.Proofs.Ytdnmkicimliopaa.satLess
open Go.ChangeShapes Go.WideShapes Go.ChangeAt Go.RowKit Go.Deep
open Go.ChangeMaps (open_string shut_string)
set_option linter.unusedVariables false

theorem own : ownKnob Try.prog.godebug = none := by kernel_rfl
theorem laidOut : laidOutB Try.prog = true := by kernel_rfl

theorem mm (x y : Int) : ∃ lo hi, (if x < y then y else x) = hi ∧ (if y < x then y else x) = lo ∧ lo ≤ hi ∧ (lo = x ∨ lo = y) ∧ (hi = x ∨ hi = y) := by
  refine ⟨_, _, rfl, rfl, ?_, ?_, ?_⟩
  · split <;> split <;> omega
  · split <;> simp
  · split <;> simp
theorem part_mono {a a' b b' p p' : Int} (h : partB a b p = true) (ha : a ≤ a') (hb : b' ≤ b) (h0 : 0 ≤ b') (hp : p' ≤ p) : partB a' b' p' = true := by
  unfold partB at *
  rw [decide_eq_true_eq] at *
  have h1 : (if p' < 0 then 0 else p') ≤ (if p < 0 then 0 else p) := by split <;> split <;> omega
  have h2 : (0 : Int) ≤ (if p < 0 then 0 else p) := by split <;> omega
  have := Int.mul_le_mul h1 hb h0 h2
  omega
theorem part_all {a : Int} : partB a a 100 = true := by
  unfold partB; simp
theorem part_none {a p : Int} (h : 0 ≤ a) : partB a 0 p = true := by
  unfold partB; rw [decide_eq_true_eq]; simp; omega

theorem walk (w : World) (c0 : Array Value) (w0 : Flat [.int .u64, .int .u64] c0.toList) (c1 : Array Value) (w1 : Flat [.int .u64, .int .u64] c1.toList) (c2 : Array Value) (w2 : Flat [.int .u8, .int .u8] c2.toList) :
    Calls Try.prog 7 #[.agg c0, .agg c1, .agg c2] w fun e w' => e = .returned (.bool true) ∧ Below w.heap.size w w' := by
  obtain ⟨n0, n1, rfl, u0, u1⟩ := w0.two
  obtain ⟨m0, m1, rfl, u2, u3⟩ := w1.two
  obtain ⟨p0, p1, rfl, u4, u5⟩ := w2.two
  have b0 := wf_u64 u0
  have b1 := wf_u64 u1
  have b2 := wf_u64 u2
  have b3 := wf_u64 u3
  have b4 := bounds_u8 u4
  have b5 := bounds_u8 u5
  clear u0 u1 u2 u3 u4 u5 w0 w1 w2
  obtain ⟨part, more, e1, e2, h1, h2, h3⟩ := mm n0 n1
  obtain ⟨few, whole, e3, e4, h4, h5, h6⟩ := mm m0 m1
  obtain ⟨low, high, e5, e6, h7, h8, h9⟩ := mm p0 p1
  have g1 : 0 ≤ part ∧ more ≤ 18446744073709551615 := by omega
  have g2 : 0 ≤ few ∧ whole ≤ 18446744073709551615 := by omega
  have g3 : 0 ≤ low ∧ high ≤ 255 := by omega
  clear h2 h3 h5 h6 h8 h9 b0 b1 b2 b3 b4 b5
  go_enter Try.func7, Try.ntmps7
  go_wp2_with (go_at_call 9; refine (awake_any _).mono ?_; rintro e w' ⟨rfl, rfl⟩)
  clear e1 e2 e3 e4 e5 e6
  refine (atLeast_any _ _ _ _ (by omega) (by omega) (by omega) (by omega) (by omega) (by omega)).mono ?_
  rintro e w' ⟨rfl, rfl⟩
  cases hq : partB part whole high
  · have q1 := Lib.hid (part_all (a := whole))
    have q2 := Lib.hid (part_none (a := part) (p := high) g1.1)
    go_wp2_with (go_at_call 18; refine (atLeast_any _ _ _ _ (by omega) (by omega) (by omega) (by omega) (by omega) (by omega)).mono ?_; rintro e w' ⟨rfl, rfl⟩; (first | rw [q1.out] | rw [q2.out]))
    go_ret
    exact ⟨rfl, ((((Below.refl _ _).alloc (Nat.le_refl _) _).alloc (by simp) _).alloc (by simp; omega) _).alloc (by simp; omega) _⟩
  · have q1 := Lib.hid (part_mono (p' := low) hq (Int.le_refl part) (Int.le_refl whole) (by omega) h7)
    have q2 := Lib.hid (part_mono hq h1 (Int.le_refl whole) (by omega) (Int.le_refl high))
    have q3 := Lib.hid (part_mono hq (Int.le_refl part) h4 (by omega) (Int.le_refl high))
    have q4 := Lib.hid (part_mono (p' := -1) hq (Int.le_refl part) (Int.le_refl whole) (by omega) (by omega))
    clear hq
    go_wp2_with (go_at_call 18; refine (atLeast_any _ _ _ _ (by omega) (by omega) (by omega) (by omega) (by omega) (by omega)).mono ?_; rintro e w' ⟨rfl, rfl⟩; (first | rw [q1.out] | rw [q2.out] | rw [q3.out] | rw [q4.out]))
    go_ret
    exact ⟨rfl, ((((Below.refl _ _).alloc (Nat.le_refl _) _).alloc (by simp) _).alloc (by simp; omega) _).alloc (by simp; omega) _⟩

set_option maxRecDepth 100000 in
theorem lifted (os : Os) (started : os.Started) (H : Type) (enc : TypeId × Value → H) :
    ReturnsInHanded {} Try.checked os 7 .any (Rows.satLessSpec.pre6 enc Try.prog Try.f7 Rows.satLessRow.domain false) (Rows.satLessSpec.post enc Try.prog Try.f7 false true false false) := by
  refine returnsInHanded_of_change_sized (C := Try.checked) own started (by kernel_rfl) Try.func7
    (ChangeSpec.witness6 (enc := enc) (C := Try.checked) false ⟨#[], #[.agg #[.int .u64 0, .int .u64 0], .agg #[.int .u64 0, .int .u64 0], .agg #[.int .u8 0, .int .u8 0]], []⟩ 8 (by kernel_rfl) (by kernel_rfl) (by kernel_rfl) (by kernel_rfl)) ?_
  intro W base args ds gs before hval0 hW hcnd hsz0 _
  have hval : ∀ (j : Nat) t v, Try.f7.params[j]? = some t → args[j]? = some v → Value.okWide Try.prog W .any base t v := hval0
  have hsz : (DataW.weightsEach Try.prog (Try.f7.params.toList ++ Rows.satLessSpec.plain.varTypes Try.prog) (ds ++ gs)).all (· ≤ reachBytes) = true := hsz0
  have hW' := hW
  obtain ⟨p, q, hA0, hV, rfl, hfz, hnd⟩ := hW
  have hA : DataW.TrodAll enc Try.prog W 0 (fun _ => true) true Try.f7.params.toList args.toList ds p := hA0
  rw [Try.params7] at hA hval hsz
  have hAk := hA
  obtain ⟨v0, vs0, d0, ds0, p0, q0, hargs, rfl, rfl, h0, r0⟩ := trodAll_cons hA
  obtain ⟨v1, vs1, d1, ds1, p1, q1, rfl, rfl, rfl, h1, r1⟩ := trodAll_cons r0
  obtain ⟨v2, vs2, d2, ds2, p2, q2, rfl, rfl, rfl, h2, r2⟩ := trodAll_cons r1
  obtain ⟨rfl, rfl, rfl⟩ := trodAll_nil r2
  obtain rfl : args = #[v0, v1, v2] := by cases args; simp_all
  obtain ⟨rfl, rfl⟩ := trodVars_none hV
  obtain ⟨c0, rfl, w0⟩ := open_flat (ks := [.int .u64, .int .u64]) 8 (by kernel_rfl) (by kernel_rfl) (hval 0 32 v0 rfl rfl) h0
  obtain ⟨c1, rfl, w1⟩ := open_flat (ks := [.int .u64, .int .u64]) 8 (by kernel_rfl) (by kernel_rfl) (hval 1 32 v1 rfl rfl) h1
  obtain ⟨c2, rfl, w2⟩ := open_flat (ks := [.int .u8, .int .u8]) 8 (by kernel_rfl) (by kernel_rfl) (hval 2 33 v2 rfl rfl) h2
  clear hA0 hval0 hsz0
  refine (walk W c0 w0 c1 w1 c2 w2).mono fun e W' ⟨he, bel⟩ => ?_
  subst he
  exact ⟨_, rfl, _, _, _, [], _, [], hW', trodAll_mk1 (shut_bool Try.underlying4 _), trodAll_below laidOut bel _ _ _ _ (by kernel_rfl) hAk, rfl, bel.frame _, fun h => by cases h⟩

theorem over : Rows.satLessRow.holds Try.pinned (OpenSpec.ofChange Rows.satLessSpec) :=
  OpenClaim.holds_of_wide 7 Try.f7 rfl rfl rfl rfl rfl rfl rfl ⟨rfl, rfl, rfl, rfl, rfl⟩ rfl rfl rfl rfl rfl (by kernel_rfl) Try.func7 (by kernel_rfl)
    (of_decide_eq_true (by kernel_rfl)) (by unfold Func.isWrapper; first | (rw [if_pos (by decide +kernel)]; kernel_rfl) | (rw [if_neg (by decide +kernel)]; exact ⟨rfl, rfl⟩))
    (fun os started H enc _ => lifted os started H enc)

theorem proved : Rows.SatLessSaid := over
#print axioms proved
end Go.Proofs.Ytdnmkicimliopaa.satLess
