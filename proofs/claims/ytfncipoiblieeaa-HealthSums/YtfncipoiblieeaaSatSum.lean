/- Contracts of sat.Sum of any row, and of the reference's: what each call returns, the world as it was. -/
import Derived.Test.YtfncipoiblieeaaSatAdd
namespace Go.Proofs.Ytfncipoiblieeaa
open Go.ChangeShapes Go.WideShapes Go.ChangeAt Go.RowKit

def sumS (l : List Int) : Int := l.foldl addS 0
theorem sumS_snoc (zs : List Int) (k : Nat) (hk : k < zs.length) : sumS (zs.take (k + 1)) = addS (sumS (zs.take k)) (zs.getD k 0) := by
  unfold sumS
  rw [List.take_add_one, List.foldl_append]
  simp [List.getD, List.getElem?_eq_getElem hk]
theorem sumS_bd_aux (l : List Int) (h : ∀ n ∈ l, 0 ≤ n) : ∀ s, 0 ≤ s → s ≤ 18446744073709551615 → 0 ≤ l.foldl addS s ∧ l.foldl addS s ≤ 18446744073709551615 := by
  induction l with
  | nil => intro s h1 h2; exact ⟨h1, h2⟩
  | cons n l ih =>
    intro s h1 h2
    have hn := h n (by simp)
    have := addS_bd h1 hn
    exact ih (fun m hm => h m (by simp [hm])) _ this.1 this.2
theorem sumS_bd (l : List Int) (h : ∀ n ∈ l, 0 ≤ n) : 0 ≤ sumS l ∧ sumS l ≤ 18446744073709551615 := sumS_bd_aux l h 0 (by omega) (by omega)
set_option maxHeartbeats 400000 in
theorem sum_any (a : Option Addr) (len cap : Nat) (zs : List Int) (w : World) (h : Row .u64 w a len zs) :
    Calls Try.prog 25 #[.slice a len cap] w fun e w' => e = .returned (.int .u64 (sumS (zs.take len))) ∧ w = w' := by
  obtain ⟨hz, hm, hc, hwf⟩ := h
  unfold maxLen at hm
  have HC := Lib.hid hc
  have HW := Lib.hid hwf
  clear hc hwf
  go_enter Try.func25, Try.ntmps25
  go_wp2
  go_loop [3, 8] (fun t i => ∃ k : Nat, k ≤ len ∧ i = .int .i64 k ∧ t = .int .u64 (sumS (zs.take k))) (fun _ i => len - (intOf i).toNat)
  case atStart => exact ⟨0, Nat.zero_le _, rfl, rfl⟩
  case round =>
    obtain ⟨k, hk, rfl, rfl⟩ := hrel
    by_cases hlt : k < len
    · obtain ⟨b, off, rfl, hc⟩ : ∃ b off, a = some ⟨b, off, none⟩ ∧ ∀ j, j < zs.length → w.cell? ⟨b, off + j, none⟩ = some (.int .u64 (zs.getD j 0)) := by
        rcases HC.out with h | h
        · omega
        · exact h
      have hcell := hc k (by omega)
      have hn := wf_u64 (wf_getD HW.out (j := k) (by omega))
      have hs := sumS_bd (zs.take k) (fun n hn => (wf_u64 (HW.out n (List.mem_of_mem_take hn))).1)
      have hsn := Lib.hid (sumS_snoc zs k (by omega))
      generalize zs.getD k 0 = z at *
      clear hc HC HW
      go_wp2_with (go_at_call 32; refine (add_any _ _ _ (by omega) (by omega) (by omega) (by omega)).mono ?_; rintro e w' ⟨rfl, rfl⟩)
      go_round
      case rel => exact ⟨k + 1, by omega, by go_num, by rw [hsn.out]⟩
      case measure => simp [intOf]; omega
    · go_wp2
      go_ret
      obtain rfl : k = len := by omega
      exact ⟨rfl, rfl⟩
set_option maxHeartbeats 400000 in
theorem rsum_any (a : Option Addr) (len cap : Nat) (zs : List Int) (w : World) (h : Row .u64 w a len zs) :
    Calls Try.prog 24 #[.slice a len cap] w fun e w' => e = .returned (.int .u64 (sumS (zs.take len))) ∧ w = w' := by
  obtain ⟨hz, hm, hc, hwf⟩ := h
  unfold maxLen at hm
  have HC := Lib.hid hc
  have HW := Lib.hid hwf
  clear hc hwf
  go_enter Try.func24, Try.ntmps24
  go_wp2
  go_loop [3, 4] (fun t i => ∃ k : Nat, k ≤ len ∧ i = .int .i64 k ∧ t = .int .u64 (sumS (zs.take k))) (fun _ i => len - (intOf i).toNat)
  case atStart => exact ⟨0, Nat.zero_le _, rfl, rfl⟩
  case round =>
    obtain ⟨k, hk, rfl, rfl⟩ := hrel
    by_cases hlt : k < len
    · obtain ⟨b, off, rfl, hc⟩ : ∃ b off, a = some ⟨b, off, none⟩ ∧ ∀ j, j < zs.length → w.cell? ⟨b, off + j, none⟩ = some (.int .u64 (zs.getD j 0)) := by
        rcases HC.out with h | h
        · omega
        · exact h
      have hcell := hc k (by omega)
      have hn := wf_u64 (wf_getD HW.out (j := k) (by omega))
      have hs := sumS_bd (zs.take k) (fun n hn => (wf_u64 (HW.out n (List.mem_of_mem_take hn))).1)
      have hsn := Lib.hid (sumS_snoc zs k (by omega))
      generalize zs.getD k 0 = z at *
      clear hc HC HW
      go_wp2_with (go_at_call 26; refine (radd_any _ _ _ (by omega) (by omega) (by omega) (by omega)).mono ?_; rintro e w' ⟨rfl, rfl⟩)
      go_round
      case rel => exact ⟨k + 1, by omega, by go_num, by rw [hsn.out]⟩
      case measure => simp [intOf]; omega
    · go_wp2
      go_ret
      obtain rfl : k = len := by omega
      exact ⟨rfl, rfl⟩
end Go.Proofs.Ytfncipoiblieeaa
