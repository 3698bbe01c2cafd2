/- Contracts of the reference functions of layer 1, and of the examples' check. -/
import Derived.Test.YtdnmkicimliopaaSat
namespace Go.Proofs.Ytdnmkicimliopaa
open Go.ChangeShapes Go.WideShapes Go.ChangeAt Go.RowKit

set_option maxHeartbeats 400000 in
theorem radd_any (a b : Int) (w : World) (ha : 0 ≤ a) (hb : 0 ≤ b) (ha' : a ≤ 18446744073709551615) (hb' : b ≤ 18446744073709551615) :
    Calls Try.prog 11 #[.int .u64 a, .int .u64 b] w fun e w' => e = .returned (.int .u64 (addS a b)) ∧ w = w' := by
  go_enter Try.func11, Try.ntmps11
  go_wp2
  all_goals go_ret
  · exact ⟨ret_int (by unfold addS; rw [if_neg (by omega)]), rfl⟩
  · exact ⟨ret_int (by unfold addS; rw [if_pos (by omega)]), rfl⟩

set_option maxHeartbeats 400000 in
theorem rsub_any (a b : Int) (w : World) (ha : 0 ≤ a) (hb : 0 ≤ b) (ha' : a ≤ 18446744073709551615) (hb' : b ≤ 18446744073709551615) :
    Calls Try.prog 13 #[.int .u64 a, .int .u64 b] w fun e w' => e = .returned (.int .u64 (subS a b)) ∧ w = w' := by
  go_enter Try.func13, Try.ntmps13
  go_wp2
  all_goals go_ret
  · exact ⟨ret_int (by unfold subS; rw [if_neg (by omega)]), rfl⟩
  · exact ⟨ret_int (by unfold subS; rw [if_pos (by omega)]), rfl⟩

theorem le_quo {a b c : Int} (hb : 0 < b) : a ≤ c / b ↔ a * b ≤ c := Int.le_ediv_iff_mul_le hb

set_option maxHeartbeats 400000 in
theorem rmul_any (a b : Int) (w : World) (ha : 0 ≤ a) (hb : 0 ≤ b) (_ha' : a ≤ 18446744073709551615) (hb' : b ≤ 18446744073709551615) :
    Calls Try.prog 15 #[.int .u64 a, .int .u64 b] w fun e w' => e = .returned (.int .u64 (mulS a b)) ∧ w = w' := by
  have hp := Int.mul_nonneg ha hb
  by_cases h0 : b = 0
  · subst h0
    go_enter Try.func15, Try.ntmps15
    go_wp2
    go_ret
    exact ⟨ret_int (by simp [mulS]), rfl⟩
  · have hq := Lib.hid (le_quo (a := a) (b := b) (c := 18446744073709551615) (by omega))
    go_enter Try.func15, Try.ntmps15
    go_wp2
    all_goals go_ret
    · rename_i h
      have h1 := h.2
      have hq' := hq.out
      exact ⟨ret_int (by unfold mulS; rw [if_neg (by omega)]), rfl⟩
    · rename_i h
      have hq' := hq.out
      have h1 : a ≤ 18446744073709551615 / b := by
        rcases h with h | h
        · simp [h0] at h
        · exact h
      exact ⟨ret_int (by unfold mulS; rw [if_pos (by omega), wrapU _ hp (by omega)]), rfl⟩

set_option maxHeartbeats 400000 in
theorem rsum_any (a : Option Addr) (len cap : Nat) (zs : List Int) (w : World) (h : Row .u64 w a len zs) :
    Calls Try.prog 17 #[.slice a len cap] w fun e w' => e = .returned (.int .u64 (sumS (zs.take len))) ∧ w = w' := by
  obtain ⟨hz, hm, hc, hwf⟩ := h
  unfold maxLen at hm
  have HC := Lib.hid hc
  have HW := Lib.hid hwf
  clear hc hwf
  go_enter Try.func17, Try.ntmps17
  go_wp2
  go_loop [3, 4] (fun t i => ∃ k : Nat, k ≤ len ∧ i = .int .i64 k ∧ t = .int .u64 (sumS (zs.take k))) (fun _ i => len - (intOf i).toNat)
  case atStart => exact ⟨0, Nat.zero_le _, rfl, rfl⟩
  case round =>
    obtain ⟨k, hk, rfl, rfl⟩ := hrel
    by_cases hlt : k < len
    · obtain ⟨b, off, rfl, hc⟩ : ∃ b off, a = some ⟨b, off, none⟩ ∧ ∀ j, j < zs.length → w.cell? ⟨b, off + j, none⟩ = some (.int .u64 (zs.getD j 0)) := by
        rcases HC.out with h | h
        · omega
        · exact h
      have hcell := hc k (by omega)
      have hn := wf_u64 (wf_getD HW.out (j := k) (by omega))
      have hs := sumS_bd (zs.take k) (fun n hn => (wf_u64 (HW.out n (List.mem_of_mem_take hn))).1)
      have hsn := Lib.hid (sumS_snoc zs k (by omega))
      generalize zs.getD k 0 = z at *
      clear hc HC HW
      go_wp2_with (go_at_call 11; refine (radd_any _ _ _ (by omega) (by omega) (by omega) (by omega)).mono ?_; rintro e w' ⟨rfl, rfl⟩)
      go_round
      case rel => exact ⟨k + 1, by omega, by go_num, by rw [hsn.out]⟩
      case measure => simp [intOf]; omega
    · go_wp2
      go_ret
      obtain rfl : k = len := by omega
      exact ⟨rfl, rfl⟩

theorem tdivU {z : Int} (h : 0 ≤ z) : z.tdiv 4294967296 = z / 4294967296 := Int.tdiv_eq_ediv_of_nonneg h
theorem tmodU {z : Int} (h : 0 ≤ z) : z.tmod 4294967296 = z % 4294967296 := Int.tmod_eq_emod_of_nonneg h
theorem wide_math (x y : Int) (hx : 0 ≤ x) (hy : 0 ≤ y) (hx' : x ≤ 18446744073709551615) (hy' : y ≤ 18446744073709551615) :
    IntKind.u64.wrap (IntKind.u64.wrap (IntKind.u64.wrap (IntKind.u64.wrap (x / 4294967296 * (y / 4294967296)) +
              IntKind.u64.wrap ((IntKind.u64.wrap (x / 4294967296 * (y % 4294967296))).tdiv 4294967296)) +
          IntKind.u64.wrap ((IntKind.u64.wrap (x % 4294967296 * (y / 4294967296))).tdiv 4294967296)) +
      IntKind.u64.wrap ((IntKind.u64.wrap (IntKind.u64.wrap (IntKind.u64.wrap ((IntKind.u64.wrap (x % 4294967296 * (y % 4294967296))).tdiv 4294967296) +
                    (IntKind.u64.wrap (x / 4294967296 * (y % 4294967296))).tmod 4294967296) +
                (IntKind.u64.wrap (x % 4294967296 * (y / 4294967296))).tmod 4294967296)).tdiv 4294967296)) = x * y / 18446744073709551616 ∧
    IntKind.u64.wrap ((IntKind.u64.wrap (x % 4294967296 * (y % 4294967296))).tmod 4294967296 +
      IntKind.u64.wrap ((IntKind.u64.wrap (IntKind.u64.wrap (IntKind.u64.wrap ((IntKind.u64.wrap (x % 4294967296 * (y % 4294967296))).tdiv 4294967296) +
                      (IntKind.u64.wrap (x / 4294967296 * (y % 4294967296))).tmod 4294967296) +
                  (IntKind.u64.wrap (x % 4294967296 * (y / 4294967296))).tmod 4294967296)).tmod 4294967296 * 4294967296)) = x * y % 18446744073709551616 := by
  have e := halves x y
  have ba := half_mul (a := x / 4294967296) (b := y / 4294967296) (by omega) (by omega) (by omega) (by omega)
  have bb := half_mul (a := x / 4294967296) (b := y % 4294967296) (by omega) (by omega) (by omega) (by omega)
  have bc := half_mul (a := x % 4294967296) (b := y / 4294967296) (by omega) (by omega) (by omega) (by omega)
  have bd := half_mul (a := x % 4294967296) (b := y % 4294967296) (by omega) (by omega) (by omega) (by omega)
  rw [e]
  generalize x / 4294967296 * (y / 4294967296) = a at *
  generalize x / 4294967296 * (y % 4294967296) = b at *
  generalize x % 4294967296 * (y / 4294967296) = c at *
  generalize x % 4294967296 * (y % 4294967296) = d at *
  clear e hx hy hx' hy'
  rw [wrapU a (by omega) (by omega), wrapU b (by omega) (by omega), wrapU c (by omega) (by omega), wrapU d (by omega) (by omega), tdivU bb.1, tdivU bc.1, tdivU bd.1, tmodU bb.1, tmodU bc.1, tmodU bd.1]
  rw [wrapU (b / 4294967296) (by omega) (by omega), wrapU (c / 4294967296) (by omega) (by omega), wrapU (d / 4294967296) (by omega) (by omega)]
  rw [wrapU (d / 4294967296 + b % 4294967296) (by omega) (by omega), wrapU (d / 4294967296 + b % 4294967296 + c % 4294967296) (by omega) (by omega)]
  rw [tdivU (by omega), tmodU (by omega)]
  rw [wrapU (a + b / 4294967296) (by omega) (by omega), wrapU (a + b / 4294967296 + c / 4294967296) (by omega) (by omega)]
  simp only [IntKind.wrap_u64]
  omega

theorem ratLeast_math1 {a b : Int} {p : Int} (_ha : 0 ≤ a) (_hb : 0 ≤ b) (hp : ¬ p < 0) (q : Bool) (h : q = decide (p * b ≤ 100 * a)) : q = partB a b p := by
  unfold partB; rw [if_neg hp]; exact h

set_option maxHeartbeats 400000 in
theorem wide_any (x y : Int) (w : World) (hx : 0 ≤ x) (hy : 0 ≤ y) (hx' : x ≤ 18446744073709551615) (hy' : y ≤ 18446744073709551615) :
    Calls Try.prog 21 #[.int .u64 x, .int .u64 y] w fun e w' => e = .returned (.tuple #[.int .u64 (x * y / 18446744073709551616), .int .u64 (x * y % 18446744073709551616)]) ∧ w = w' := by
  have hm := Lib.hid (wide_math x y hx hy hx' hy')
  go_enter Try.func21, Try.ntmps21
  go_wp2
  go_ret2
  exact ⟨ret_two hm.out.1 hm.out.2, rfl⟩

set_option maxHeartbeats 400000 in
theorem ratLeast_any (a b p : Int) (w : World) (ha : 0 ≤ a) (hb : 0 ≤ b) (ha' : a ≤ 18446744073709551615) (hb' : b ≤ 18446744073709551615) (hp : -9223372036854775808 ≤ p) (hp' : p ≤ 9223372036854775807) :
    Calls Try.prog 19 #[.int .u64 a, .int .u64 b, .int .i64 p] w fun e w' => e = .returned (.bool (partB a b p)) ∧ w = w' := by
  go_enter Try.func19, Try.ntmps19
  go_wp2_with (go_at_call 21; refine (wide_any _ _ _ (by omega) (by omega) (by omega) (by omega)).mono ?_; rintro e w' ⟨rfl, rfl⟩)
  all_goals go_ret
  all_goals refine ⟨ret_bool ?_, rfl⟩
  all_goals unfold partB
  all_goals (have hpz : p ≤ 0 → (if p < 0 then 0 else p) * b = 0 := by intro h; (split <;> first | simp | (rw [show p = 0 by omega]; simp)))
  all_goals (have hpq : 0 < p → (if p < 0 then 0 else p) * b = p * b := by intro h; rw [if_neg (by omega)])
  all_goals first | (rw [hpq (by assumption)]) | (rw [hpz (by assumption)])
  all_goals clear hpz hpq
  all_goals first | (rw [decide_eq_decide]; omega) | (symm; rw [decide_eq_true_eq]; omega) | go_show

set_option maxHeartbeats 400000 in
theorem awake_any (w : World) :
    Calls Try.prog 9 #[] w fun e w' => e = .returned (.bool true) ∧ w' = w.alloc (.cells #[.int .u64 1, .int .u64 2, .int .u64 3] 22) := by
  go_enter Try.func9, Try.ntmps9
  go_wp2_with (first
    | (go_at_call 10; refine (add_any _ _ _ (by omega) (by omega) (by omega) (by omega)).mono ?_; rintro e w' ⟨rfl, rfl⟩; rw [show addS 18446744073709551615 1 = 18446744073709551615 from rfl])
    | (go_at_call 12; refine (sub_any _ _ _ (by omega) (by omega) (by omega) (by omega)).mono ?_; rintro e w' ⟨rfl, rfl⟩; rw [show subS 3 5 = 0 from rfl])
    | (go_at_call 14; refine (mul_any _ _ _ (by omega) (by omega) (by omega) (by omega)).mono ?_; rintro e w' ⟨rfl, rfl⟩; rw [show mulS 1099511627776 1099511627776 = 18446744073709551615 from rfl])
    | (go_at_call 18; refine (atLeast_any _ _ _ _ (by omega) (by omega) (by omega) (by omega) (by omega) (by omega)).mono ?_; rintro e w' ⟨rfl, rfl⟩; (first | rw [show partB 1 2 50 = true from rfl] | rw [show partB 1 2 51 = false from rfl])))
  refine (sum_any _ _ _ [1, 2, 3] _ ⟨by simp, by decide, .inr ⟨_, _, rfl, ?_⟩, by decide⟩).mono ?_
  · intro j hj
    simp at hj
    match j, hj with
    | 0, _ => simp [go_sem]
    | 1, _ => simp [go_sem]
    | 2, _ => simp [go_sem]
  rintro e w' ⟨rfl, rfl⟩
  rw [show sumS (List.take 3 [1, 2, 3]) = 6 from rfl]
  go_wp2
  go_ret
  exact ⟨rfl, rfl⟩
end Go.Proofs.Ytdnmkicimliopaa
