/- Contracts of sat.AtLeast and sat.Sum of any row, of the reference's Sum and AtLeast: what each call returns, the world as it was. (For seats without Sub and Mul; stage 1's Sat and Ref01 hold the same, with those.) -/
import Derived.Test.YtpheifdneafkhaaSatAdd
import Derived.Lib.Mul64
import Derived.Laws.Bits64b
namespace Go.Proofs.Ytpheifdneafkhaa
open Go.ChangeShapes Go.WideShapes Go.ChangeAt Go.RowKit

def sumS (l : List Int) : Int := l.foldl addS 0
def partB (part whole percent : Int) : Bool := decide ((if percent < 0 then 0 else percent) * whole ≤ 100 * part)

theorem mask32 (x : Int) (hx : 0 ≤ x) (hx' : x ≤ 18446744073709551615) : bits BinOp.and IntKind.u64 x 4294967295 = x % 4294967296 := by
  obtain ⟨n, rfl⟩ := Int.eq_ofNat_of_zero_le hx
  have h := bits_and_u64_nat n 4294967295 (by omega) (by omega)
  rw [show n &&& 4294967295 = n % 4294967296 from Nat.and_two_pow_sub_one_eq_mod n 32] at h
  rw [show (4294967295 : Int) = ((4294967295 : Nat) : Int) from rfl, h]
  omega
theorem wrapU (z : Int) (h : 0 ≤ z) (h' : z ≤ 18446744073709551615) : IntKind.u64.wrap z = z := by rw [IntKind.wrap_u64]; omega
theorem half_mul {a b : Int} (ha : 0 ≤ a) (hb : 0 ≤ b) (ha' : a ≤ 4294967295) (hb' : b ≤ 4294967295) : 0 ≤ a * b ∧ a * b ≤ 18446744065119617025 :=
  ⟨Int.mul_nonneg ha hb, Int.mul_le_mul ha' hb' hb (by omega)⟩
theorem halves (x y : Int) : x * y = (x / 4294967296) * (y / 4294967296) * 18446744073709551616 + ((x / 4294967296) * (y % 4294967296) + (x % 4294967296) * (y / 4294967296)) * 4294967296 + (x % 4294967296) * (y % 4294967296) := by
  have ex : x = (x / 4294967296) * 4294967296 + x % 4294967296 := by omega
  have ey : y = (y / 4294967296) * 4294967296 + y % 4294967296 := by omega
  generalize x / 4294967296 = a at *
  generalize x % 4294967296 = b at *
  generalize y / 4294967296 = c at *
  generalize y % 4294967296 = d at *
  subst ex ey
  simp only [Int.add_mul, Int.mul_add]
  have e1 : a * 4294967296 * (c * 4294967296) = a * c * 18446744073709551616 := by rw [Int.mul_assoc, Int.mul_left_comm 4294967296 c, Int.mul_assoc]; rfl
  have e2 : a * 4294967296 * d = a * d * 4294967296 := by rw [Int.mul_right_comm]
  have e3 : b * (c * 4294967296) = b * c * 4294967296 := by rw [Int.mul_assoc]
  omega

theorem hi64 (x y : Int) (hx : 0 ≤ x) (hy : 0 ≤ y) (hx' : x ≤ 18446744073709551615) (hy' : y ≤ 18446744073709551615) :
    IntKind.u64.wrap (IntKind.u64.wrap (IntKind.u64.wrap (x / 4294967296 * (y / 4294967296)) +
        IntKind.u64.wrap (IntKind.u64.wrap (x / 4294967296 * bits BinOp.and IntKind.u64 y 4294967295) +
          IntKind.u64.wrap (bits BinOp.and IntKind.u64 x 4294967295 * bits BinOp.and IntKind.u64 y 4294967295) / 4294967296) / 4294967296) +
      IntKind.u64.wrap (bits BinOp.and IntKind.u64 (IntKind.u64.wrap (IntKind.u64.wrap (x / 4294967296 * bits BinOp.and IntKind.u64 y 4294967295) +
          IntKind.u64.wrap (bits BinOp.and IntKind.u64 x 4294967295 * bits BinOp.and IntKind.u64 y 4294967295) / 4294967296)) 4294967295 +
        IntKind.u64.wrap (bits BinOp.and IntKind.u64 x 4294967295 * (y / 4294967296))) / 4294967296) = x * y / 18446744073709551616 := by
  rw [mask32 x hx hx', mask32 y hy hy']
  have e := halves x y
  have ba := half_mul (a := x / 4294967296) (b := y / 4294967296) (by omega) (by omega) (by omega) (by omega)
  have bb := half_mul (a := x / 4294967296) (b := y % 4294967296) (by omega) (by omega) (by omega) (by omega)
  have bc := half_mul (a := x % 4294967296) (b := y / 4294967296) (by omega) (by omega) (by omega) (by omega)
  have bd := half_mul (a := x % 4294967296) (b := y % 4294967296) (by omega) (by omega) (by omega) (by omega)
  rw [e]
  generalize x / 4294967296 * (y / 4294967296) = a at *
  generalize x / 4294967296 * (y % 4294967296) = b at *
  generalize x % 4294967296 * (y / 4294967296) = c at *
  generalize x % 4294967296 * (y % 4294967296) = d at *
  clear e hx hy hx' hy'
  rw [wrapU a (by omega) (by omega), wrapU b (by omega) (by omega), wrapU c (by omega) (by omega), wrapU d (by omega) (by omega), wrapU (b + d / 4294967296) (by omega) (by omega), mask32 _ (by omega) (by omega)]
  rw [wrapU (a + (b + d / 4294967296) / 4294967296) (by omega) (by omega), wrapU ((b + d / 4294967296) % 4294967296 + c) (by omega) (by omega), wrapU _ (by omega) (by omega)]
  omega

theorem ret_two {k : IntKind} {a b c d : Int} (h : a = b) (g : c = d) : Ending.returned (.tuple #[.int k a, .int k c]) = .returned (.tuple #[.int k b, .int k d]) := by rw [h, g]

set_option maxHeartbeats 1000000 in
theorem mul64_any (x y : Int) (w : World) (hx : 0 ≤ x) (hy : 0 ≤ y) (hx' : x ≤ 18446744073709551615) (hy' : y ≤ 18446744073709551615) :
    Calls Try.prog 34 #[.int .u64 x, .int .u64 y] w fun e w' => e = .returned (.tuple #[.int .u64 (x * y / 18446744073709551616), .int .u64 (x * y % 18446744073709551616)]) ∧ w = w' := by
  have hi := Lib.hid (hi64 x y hx hy hx' hy')
  go_enter Try.func34, Try.ntmps34
  go_wp2
  go_ret2
  exact ⟨ret_two hi.out (IntKind.wrap_u64 _), rfl⟩

set_option maxHeartbeats 400000 in
theorem atLeast_any (a b p : Int) (w : World) (ha : 0 ≤ a) (hb : 0 ≤ b) (ha' : a ≤ 18446744073709551615) (hb' : b ≤ 18446744073709551615) (hp : -9223372036854775808 ≤ p) (hp' : p ≤ 9223372036854775807) :
    Calls Try.prog 26 #[.int .u64 a, .int .u64 b, .int .i64 p] w fun e w' => e = .returned (.bool (partB a b p)) ∧ w = w' := by
  go_enter Try.func26, Try.ntmps26
  go_wp2_with (go_at_call 34; refine (mul64_any _ _ _ (by omega) (by omega) (by omega) (by omega)).mono ?_; rintro e w' ⟨rfl, rfl⟩)
  all_goals go_ret
  all_goals refine ⟨ret_bool ?_, rfl⟩
  all_goals unfold partB
  all_goals have hpb := Int.mul_comm b p
  all_goals simp only [bne_iff_ne, ne_eq, bne_eq_false_iff_eq] at *
  all_goals split
  all_goals first | omega | (rw [decide_eq_decide]; omega)

theorem sumS_snoc (zs : List Int) (k : Nat) (hk : k < zs.length) : sumS (zs.take (k + 1)) = addS (sumS (zs.take k)) (zs.getD k 0) := by
  unfold sumS
  rw [List.take_add_one, List.foldl_append]
  simp [List.getD, List.getElem?_eq_getElem hk]
theorem sumS_bd_aux (l : List Int) (h : ∀ n ∈ l, 0 ≤ n) : ∀ s, 0 ≤ s → s ≤ 18446744073709551615 → 0 ≤ l.foldl addS s ∧ l.foldl addS s ≤ 18446744073709551615 := by
  induction l with
  | nil => intro s h1 h2; exact ⟨h1, h2⟩
  | cons n l ih =>
    intro s h1 h2
    have hn := h n (by simp)
    have := addS_bd h1 hn
    exact ih (fun m hm => h m (by simp [hm])) _ this.1 this.2
theorem sumS_bd (l : List Int) (h : ∀ n ∈ l, 0 ≤ n) : 0 ≤ sumS l ∧ sumS l ≤ 18446744073709551615 := sumS_bd_aux l h 0 (by omega) (by omega)
set_option maxHeartbeats 400000 in
theorem sum_any (a : Option Addr) (len cap : Nat) (zs : List Int) (w : World) (h : Row .u64 w a len zs) :
    Calls Try.prog 24 #[.slice a len cap] w fun e w' => e = .returned (.int .u64 (sumS (zs.take len))) ∧ w = w' := by
  obtain ⟨hz, hm, hc, hwf⟩ := h
  unfold maxLen at hm
  have HC := Lib.hid hc
  have HW := Lib.hid hwf
  clear hc hwf
  go_enter Try.func24, Try.ntmps24
  go_wp2
  go_loop [3, 8] (fun t i => ∃ k : Nat, k ≤ len ∧ i = .int .i64 k ∧ t = .int .u64 (sumS (zs.take k))) (fun _ i => len - (intOf i).toNat)
  case atStart => exact ⟨0, Nat.zero_le _, rfl, rfl⟩
  case round =>
    obtain ⟨k, hk, rfl, rfl⟩ := hrel
    by_cases hlt : k < len
    · obtain ⟨b, off, rfl, hc⟩ : ∃ b off, a = some ⟨b, off, none⟩ ∧ ∀ j, j < zs.length → w.cell? ⟨b, off + j, none⟩ = some (.int .u64 (zs.getD j 0)) := by
        rcases HC.out with h | h
        · omega
        · exact h
      have hcell := hc k (by omega)
      have hn := wf_u64 (wf_getD HW.out (j := k) (by omega))
      have hs := sumS_bd (zs.take k) (fun n hn => (wf_u64 (HW.out n (List.mem_of_mem_take hn))).1)
      have hsn := Lib.hid (sumS_snoc zs k (by omega))
      generalize zs.getD k 0 = z at *
      clear hc HC HW
      go_wp2_with (go_at_call 25; refine (add_any _ _ _ (by omega) (by omega) (by omega) (by omega)).mono ?_; rintro e w' ⟨rfl, rfl⟩)
      go_round
      case rel => exact ⟨k + 1, by omega, by go_num, by rw [hsn.out]⟩
      case measure => simp [intOf]; omega
    · go_wp2
      go_ret
      obtain rfl : k = len := by omega
      exact ⟨rfl, rfl⟩
set_option maxHeartbeats 400000 in
theorem rsum_any (a : Option Addr) (len cap : Nat) (zs : List Int) (w : World) (h : Row .u64 w a len zs) :
    Calls Try.prog 30 #[.slice a len cap] w fun e w' => e = .returned (.int .u64 (sumS (zs.take len))) ∧ w = w' := by
  obtain ⟨hz, hm, hc, hwf⟩ := h
  unfold maxLen at hm
  have HC := Lib.hid hc
  have HW := Lib.hid hwf
  clear hc hwf
  go_enter Try.func30, Try.ntmps30
  go_wp2
  go_loop [3, 4] (fun t i => ∃ k : Nat, k ≤ len ∧ i = .int .i64 k ∧ t = .int .u64 (sumS (zs.take k))) (fun _ i => len - (intOf i).toNat)
  case atStart => exact ⟨0, Nat.zero_le _, rfl, rfl⟩
  case round =>
    obtain ⟨k, hk, rfl, rfl⟩ := hrel
    by_cases hlt : k < len
    · obtain ⟨b, off, rfl, hc⟩ : ∃ b off, a = some ⟨b, off, none⟩ ∧ ∀ j, j < zs.length → w.cell? ⟨b, off + j, none⟩ = some (.int .u64 (zs.getD j 0)) := by
        rcases HC.out with h | h
        · omega
        · exact h
      have hcell := hc k (by omega)
      have hn := wf_u64 (wf_getD HW.out (j := k) (by omega))
      have hs := sumS_bd (zs.take k) (fun n hn => (wf_u64 (HW.out n (List.mem_of_mem_take hn))).1)
      have hsn := Lib.hid (sumS_snoc zs k (by omega))
      generalize zs.getD k 0 = z at *
      clear hc HC HW
      go_wp2_with (go_at_call 31; refine (radd_any _ _ _ (by omega) (by omega) (by omega) (by omega)).mono ?_; rintro e w' ⟨rfl, rfl⟩)
      go_round
      case rel => exact ⟨k + 1, by omega, by go_num, by rw [hsn.out]⟩
      case measure => simp [intOf]; omega
    · go_wp2
      go_ret
      obtain rfl : k = len := by omega
      exact ⟨rfl, rfl⟩

theorem tdivU {z : Int} (h : 0 ≤ z) : z.tdiv 4294967296 = z / 4294967296 := Int.tdiv_eq_ediv_of_nonneg h
theorem tmodU {z : Int} (h : 0 ≤ z) : z.tmod 4294967296 = z % 4294967296 := Int.tmod_eq_emod_of_nonneg h
theorem wide_math (x y : Int) (hx : 0 ≤ x) (hy : 0 ≤ y) (hx' : x ≤ 18446744073709551615) (hy' : y ≤ 18446744073709551615) :
    IntKind.u64.wrap (IntKind.u64.wrap (IntKind.u64.wrap (IntKind.u64.wrap (x / 4294967296 * (y / 4294967296)) +
              IntKind.u64.wrap ((IntKind.u64.wrap (x / 4294967296 * (y % 4294967296))).tdiv 4294967296)) +
          IntKind.u64.wrap ((IntKind.u64.wrap (x % 4294967296 * (y / 4294967296))).tdiv 4294967296)) +
      IntKind.u64.wrap ((IntKind.u64.wrap (IntKind.u64.wrap (IntKind.u64.wrap ((IntKind.u64.wrap (x % 4294967296 * (y % 4294967296))).tdiv 4294967296) +
                    (IntKind.u64.wrap (x / 4294967296 * (y % 4294967296))).tmod 4294967296) +
                (IntKind.u64.wrap (x % 4294967296 * (y / 4294967296))).tmod 4294967296)).tdiv 4294967296)) = x * y / 18446744073709551616 ∧
    IntKind.u64.wrap ((IntKind.u64.wrap (x % 4294967296 * (y % 4294967296))).tmod 4294967296 +
      IntKind.u64.wrap ((IntKind.u64.wrap (IntKind.u64.wrap (IntKind.u64.wrap ((IntKind.u64.wrap (x % 4294967296 * (y % 4294967296))).tdiv 4294967296) +
                      (IntKind.u64.wrap (x / 4294967296 * (y % 4294967296))).tmod 4294967296) +
                  (IntKind.u64.wrap (x % 4294967296 * (y / 4294967296))).tmod 4294967296)).tmod 4294967296 * 4294967296)) = x * y % 18446744073709551616 := by
  have e := halves x y
  have ba := half_mul (a := x / 4294967296) (b := y / 4294967296) (by omega) (by omega) (by omega) (by omega)
  have bb := half_mul (a := x / 4294967296) (b := y % 4294967296) (by omega) (by omega) (by omega) (by omega)
  have bc := half_mul (a := x % 4294967296) (b := y / 4294967296) (by omega) (by omega) (by omega) (by omega)
  have bd := half_mul (a := x % 4294967296) (b := y % 4294967296) (by omega) (by omega) (by omega) (by omega)
  rw [e]
  generalize x / 4294967296 * (y / 4294967296) = a at *
  generalize x / 4294967296 * (y % 4294967296) = b at *
  generalize x % 4294967296 * (y / 4294967296) = c at *
  generalize x % 4294967296 * (y % 4294967296) = d at *
  clear e hx hy hx' hy'
  rw [wrapU a (by omega) (by omega), wrapU b (by omega) (by omega), wrapU c (by omega) (by omega), wrapU d (by omega) (by omega), tdivU bb.1, tdivU bc.1, tdivU bd.1, tmodU bb.1, tmodU bc.1, tmodU bd.1]
  rw [wrapU (b / 4294967296) (by omega) (by omega), wrapU (c / 4294967296) (by omega) (by omega), wrapU (d / 4294967296) (by omega) (by omega)]
  rw [wrapU (d / 4294967296 + b % 4294967296) (by omega) (by omega), wrapU (d / 4294967296 + b % 4294967296 + c % 4294967296) (by omega) (by omega)]
  rw [tdivU (by omega), tmodU (by omega)]
  rw [wrapU (a + b / 4294967296) (by omega) (by omega), wrapU (a + b / 4294967296 + c / 4294967296) (by omega) (by omega)]
  simp only [IntKind.wrap_u64]
  omega

theorem ratLeast_math1 {a b : Int} {p : Int} (_ha : 0 ≤ a) (_hb : 0 ≤ b) (hp : ¬ p < 0) (q : Bool) (h : q = decide (p * b ≤ 100 * a)) : q = partB a b p := by
  unfold partB; rw [if_neg hp]; exact h

set_option maxHeartbeats 400000 in
theorem wide_any (x y : Int) (w : World) (hx : 0 ≤ x) (hy : 0 ≤ y) (hx' : x ≤ 18446744073709551615) (hy' : y ≤ 18446744073709551615) :
    Calls Try.prog 35 #[.int .u64 x, .int .u64 y] w fun e w' => e = .returned (.tuple #[.int .u64 (x * y / 18446744073709551616), .int .u64 (x * y % 18446744073709551616)]) ∧ w = w' := by
  have hm := Lib.hid (wide_math x y hx hy hx' hy')
  go_enter Try.func35, Try.ntmps35
  go_wp2
  go_ret2
  exact ⟨ret_two hm.out.1 hm.out.2, rfl⟩

set_option maxHeartbeats 400000 in
theorem ratLeast_any (a b p : Int) (w : World) (ha : 0 ≤ a) (hb : 0 ≤ b) (ha' : a ≤ 18446744073709551615) (hb' : b ≤ 18446744073709551615) (hp : -9223372036854775808 ≤ p) (hp' : p ≤ 9223372036854775807) :
    Calls Try.prog 32 #[.int .u64 a, .int .u64 b, .int .i64 p] w fun e w' => e = .returned (.bool (partB a b p)) ∧ w = w' := by
  go_enter Try.func32, Try.ntmps32
  go_wp2_with (go_at_call 35; refine (wide_any _ _ _ (by omega) (by omega) (by omega) (by omega)).mono ?_; rintro e w' ⟨rfl, rfl⟩)
  all_goals go_ret
  all_goals refine ⟨ret_bool ?_, rfl⟩
  all_goals unfold partB
  all_goals (have hpz : p ≤ 0 → (if p < 0 then 0 else p) * b = 0 := by intro h; (split <;> first | simp | (rw [show p = 0 by omega]; simp)))
  all_goals (have hpq : 0 < p → (if p < 0 then 0 else p) * b = p * b := by intro h; rw [if_neg (by omega)])
  all_goals first | (rw [hpq (by assumption)]) | (rw [hpz (by assumption)])
  all_goals clear hpz hpq
  all_goals first | (rw [decide_eq_decide]; omega) | (symm; rw [decide_eq_true_eq]; omega) | go_show

end Go.Proofs.Ytpheifdneafkhaa
