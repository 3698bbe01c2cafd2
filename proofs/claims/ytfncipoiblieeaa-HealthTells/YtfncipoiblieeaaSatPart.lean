/- Contracts of sat.AtLeast and of the reference's: what each call returns, the world as it was. (For seats without Sub and Mul; stage 1's Sat and Ref01 hold the same, with those.) -/
import Derived.Test.YtfncipoiblieeaaSatSum
import Derived.Test.YtfncipoiblieeaaMul64
namespace Go.Proofs.Ytfncipoiblieeaa
open Go.ChangeShapes Go.WideShapes Go.ChangeAt Go.RowKit

def partB (part whole percent : Int) : Bool := decide ((if percent < 0 then 0 else percent) * whole ≤ 100 * part)
set_option maxHeartbeats 400000 in
theorem atLeast_any (a b p : Int) (w : World) (ha : 0 ≤ a) (hb : 0 ≤ b) (ha' : a ≤ 18446744073709551615) (hb' : b ≤ 18446744073709551615) (hp : -9223372036854775808 ≤ p) (hp' : p ≤ 9223372036854775807) :
    Calls Try.prog 28 #[.int .u64 a, .int .u64 b, .int .i64 p] w fun e w' => e = .returned (.bool (partB a b p)) ∧ w = w' := by
  go_enter Try.func28, Try.ntmps28
  go_wp2_with (go_at_call 33; refine (mul64_any _ _ _ (by omega) (by omega) (by omega) (by omega)).mono ?_; rintro e w' ⟨rfl, rfl⟩)
  all_goals go_ret
  all_goals refine ⟨ret_bool ?_, rfl⟩
  all_goals unfold partB
  all_goals have hpb := Int.mul_comm b p
  all_goals simp only [bne_iff_ne, ne_eq, bne_eq_false_iff_eq] at *
  all_goals split
  all_goals first | omega | (rw [decide_eq_decide]; omega)

theorem tdivU {z : Int} (h : 0 ≤ z) : z.tdiv 4294967296 = z / 4294967296 := Int.tdiv_eq_ediv_of_nonneg h
theorem tmodU {z : Int} (h : 0 ≤ z) : z.tmod 4294967296 = z % 4294967296 := Int.tmod_eq_emod_of_nonneg h
theorem wide_math (x y : Int) (hx : 0 ≤ x) (hy : 0 ≤ y) (hx' : x ≤ 18446744073709551615) (hy' : y ≤ 18446744073709551615) :
    IntKind.u64.wrap (IntKind.u64.wrap (IntKind.u64.wrap (IntKind.u64.wrap (x / 4294967296 * (y / 4294967296)) +
              IntKind.u64.wrap ((IntKind.u64.wrap (x / 4294967296 * (y % 4294967296))).tdiv 4294967296)) +
          IntKind.u64.wrap ((IntKind.u64.wrap (x % 4294967296 * (y / 4294967296))).tdiv 4294967296)) +
      IntKind.u64.wrap ((IntKind.u64.wrap (IntKind.u64.wrap (IntKind.u64.wrap ((IntKind.u64.wrap (x % 4294967296 * (y % 4294967296))).tdiv 4294967296) +
                    (IntKind.u64.wrap (x / 4294967296 * (y % 4294967296))).tmod 4294967296) +
                (IntKind.u64.wrap (x % 4294967296 * (y / 4294967296))).tmod 4294967296)).tdiv 4294967296)) = x * y / 18446744073709551616 ∧
    IntKind.u64.wrap ((IntKind.u64.wrap (x % 4294967296 * (y % 4294967296))).tmod 4294967296 +
      IntKind.u64.wrap ((IntKind.u64.wrap (IntKind.u64.wrap (IntKind.u64.wrap ((IntKind.u64.wrap (x % 4294967296 * (y % 4294967296))).tdiv 4294967296) +
                      (IntKind.u64.wrap (x / 4294967296 * (y % 4294967296))).tmod 4294967296) +
                  (IntKind.u64.wrap (x % 4294967296 * (y / 4294967296))).tmod 4294967296)).tmod 4294967296 * 4294967296)) = x * y % 18446744073709551616 := by
  have e := halves x y
  have ba := half_mul (a := x / 4294967296) (b := y / 4294967296) (by omega) (by omega) (by omega) (by omega)
  have bb := half_mul (a := x / 4294967296) (b := y % 4294967296) (by omega) (by omega) (by omega) (by omega)
  have bc := half_mul (a := x % 4294967296) (b := y / 4294967296) (by omega) (by omega) (by omega) (by omega)
  have bd := half_mul (a := x % 4294967296) (b := y % 4294967296) (by omega) (by omega) (by omega) (by omega)
  rw [e]
  generalize x / 4294967296 * (y / 4294967296) = a at *
  generalize x / 4294967296 * (y % 4294967296) = b at *
  generalize x % 4294967296 * (y / 4294967296) = c at *
  generalize x % 4294967296 * (y % 4294967296) = d at *
  clear e hx hy hx' hy'
  rw [wrapU a (by omega) (by omega), wrapU b (by omega) (by omega), wrapU c (by omega) (by omega), wrapU d (by omega) (by omega), tdivU bb.1, tdivU bc.1, tdivU bd.1, tmodU bb.1, tmodU bc.1, tmodU bd.1]
  rw [wrapU (b / 4294967296) (by omega) (by omega), wrapU (c / 4294967296) (by omega) (by omega), wrapU (d / 4294967296) (by omega) (by omega)]
  rw [wrapU (d / 4294967296 + b % 4294967296) (by omega) (by omega), wrapU (d / 4294967296 + b % 4294967296 + c % 4294967296) (by omega) (by omega)]
  rw [tdivU (by omega), tmodU (by omega)]
  rw [wrapU (a + b / 4294967296) (by omega) (by omega), wrapU (a + b / 4294967296 + c / 4294967296) (by omega) (by omega)]
  simp only [IntKind.wrap_u64]
  omega

theorem ratLeast_math1 {a b : Int} {p : Int} (_ha : 0 ≤ a) (_hb : 0 ≤ b) (hp : ¬ p < 0) (q : Bool) (h : q = decide (p * b ≤ 100 * a)) : q = partB a b p := by
  unfold partB; rw [if_neg hp]; exact h

set_option maxHeartbeats 400000 in
theorem wide_any (x y : Int) (w : World) (hx : 0 ≤ x) (hy : 0 ≤ y) (hx' : x ≤ 18446744073709551615) (hy' : y ≤ 18446744073709551615) :
    Calls Try.prog 34 #[.int .u64 x, .int .u64 y] w fun e w' => e = .returned (.tuple #[.int .u64 (x * y / 18446744073709551616), .int .u64 (x * y % 18446744073709551616)]) ∧ w = w' := by
  have hm := Lib.hid (wide_math x y hx hy hx' hy')
  go_enter Try.func34, Try.ntmps34
  go_wp2
  go_ret2
  exact ⟨ret_two hm.out.1 hm.out.2, rfl⟩

set_option maxHeartbeats 400000 in
theorem ratLeast_any (a b p : Int) (w : World) (ha : 0 ≤ a) (hb : 0 ≤ b) (ha' : a ≤ 18446744073709551615) (hb' : b ≤ 18446744073709551615) (hp : -9223372036854775808 ≤ p) (hp' : p ≤ 9223372036854775807) :
    Calls Try.prog 29 #[.int .u64 a, .int .u64 b, .int .i64 p] w fun e w' => e = .returned (.bool (partB a b p)) ∧ w = w' := by
  go_enter Try.func29, Try.ntmps29
  go_wp2_with (go_at_call 34; refine (wide_any _ _ _ (by omega) (by omega) (by omega) (by omega)).mono ?_; rintro e w' ⟨rfl, rfl⟩)
  all_goals go_ret
  all_goals refine ⟨ret_bool ?_, rfl⟩
  all_goals unfold partB
  all_goals (have hpz : p ≤ 0 → (if p < 0 then 0 else p) * b = 0 := by intro h; (split <;> first | simp | (rw [show p = 0 by omega]; simp)))
  all_goals (have hpq : 0 < p → (if p < 0 then 0 else p) * b = p * b := by intro h; rw [if_neg (by omega)])
  all_goals first | (rw [hpq (by assumption)]) | (rw [hpz (by assumption)])
  all_goals clear hpz hpq
  all_goals first | (rw [decide_eq_decide]; omega) | (symm; rw [decide_eq_true_eq]; omega) | go_show

end Go.Proofs.Ytfncipoiblieeaa
