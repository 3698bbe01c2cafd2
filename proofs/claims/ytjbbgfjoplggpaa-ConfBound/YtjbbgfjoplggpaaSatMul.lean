/- Contract of sat.Mul: what the call returns, the world as it was. -/
import Derived.Test.YtjbbgfjoplggpaaSatAdd
import Derived.Test.YtjbbgfjoplggpaaMul64
namespace Go.Proofs.Ytjbbgfjoplggpaa
open Go.ChangeShapes Go.WideShapes Go.ChangeAt Go.RowKit

def mulS (a b : Int) : Int := if a * b ≤ 18446744073709551615 then a * b else 18446744073709551615
theorem mulS_bd {a b : Int} (ha : 0 ≤ a) (hb : 0 ≤ b) : 0 ≤ mulS a b ∧ mulS a b ≤ 18446744073709551615 := by
  have := Int.mul_nonneg ha hb
  unfold mulS; split <;> omega
set_option maxHeartbeats 400000 in
theorem mul_any (a b : Int) (w : World) (ha : 0 ≤ a) (hb : 0 ≤ b) (ha' : a ≤ 18446744073709551615) (hb' : b ≤ 18446744073709551615) :
    Calls Try.prog 23 #[.int .u64 a, .int .u64 b] w fun e w' => e = .returned (.int .u64 (mulS a b)) ∧ w = w' := by
  have hp := Int.mul_nonneg ha hb
  go_enter Try.func23, Try.ntmps23
  go_wp2_with (go_at_call 28; refine (mul64_any _ _ _ ha hb ha' hb').mono ?_; rintro e w' ⟨rfl, rfl⟩)
  all_goals go_ret
  all_goals refine ⟨ret_int ?_, rfl⟩
  · unfold mulS; rw [if_neg (by omega)]
  · unfold mulS; rw [if_pos (by omega)]; omega
end Go.Proofs.Ytjbbgfjoplggpaa
