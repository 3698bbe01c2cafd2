/- Contract of the reference's Len of layer 2. (For seats without the rest of it; stage 2's Ref02 holds the same.) -/
import Derived.Test.YtpheifdneafkhaaBitsLen
namespace Go.Proofs.Ytpheifdneafkhaa
set_option linter.unusedVariables false
open Go.ChangeShapes Go.WideShapes Go.ChangeAt Go.RowKit

set_option maxHeartbeats 400000 in
theorem rlen_any (x : Int) (w : World) (h : 0 ≤ x) (h' : x ≤ 18446744073709551615) :
    Calls Try.prog 29 #[.int .u64 x] w fun e w' => e = .returned (.int .i64 (lenS x)) ∧ w = w' := by
  have hx := lenS_bd h h'
  go_enter Try.func29, Try.ntmps29
  go_wp2
  go_loop [0, 3] (fun t n => ∃ y : Int, 0 ≤ y ∧ y ≤ 18446744073709551615 ∧ t = .int .u64 y ∧ lenS y ≤ lenS x ∧ n = .int .i64 (lenS x - lenS y)) (fun t _ => (intOf t).toNat)
  case atStart => exact ⟨x, h, h', rfl, Int.le_refl _, by rw [Int.sub_self]⟩
  case round =>
    obtain ⟨y, hy, hy', rfl, hle, rfl⟩ := hrel
    have hb := lenS_bd hy hy'
    by_cases hp : 0 < y
    · have hs := Lib.hid (lenS_half hp)
      have hs' : lenS (y / 2) + 1 ≤ lenS y := by rw [← hs.out]; exact Int.le_refl _
      go_wp2
      go_round
      case rel => exact ⟨y / 2, by omega, by omega, rfl, by omega, by rw [hs.out]; go_num⟩
      case measure => simp [intOf]; omega
    · have hz := Lib.hid (show lenS y = 0 by rw [show y = 0 by omega]; rfl)
      go_wp2
      go_ret
      exact ⟨ret_int (by rw [hz.out]; omega), rfl⟩

end Go.Proofs.Ytpheifdneafkhaa
