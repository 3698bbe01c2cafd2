/- Contracts of sat.Add, and of the reference's Add: what each call returns, the world as it was. -/
import Derived.Test.YtfncipoiblieeaaKit
namespace Go.Proofs.Ytfncipoiblieeaa
open Go.ChangeShapes Go.WideShapes Go.ChangeAt Go.RowKit

def addS (a b : Int) : Int := if a + b ≤ 18446744073709551615 then a + b else 18446744073709551615
theorem addS_bd {a b : Int} (ha : 0 ≤ a) (hb : 0 ≤ b) : 0 ≤ addS a b ∧ addS a b ≤ 18446744073709551615 := by unfold addS; split <;> omega

set_option maxHeartbeats 400000 in
theorem add_any (a b : Int) (w : World) (ha : 0 ≤ a) (hb : 0 ≤ b) (ha' : a ≤ 18446744073709551615) (hb' : b ≤ 18446744073709551615) :
    Calls Try.prog 32 #[.int .u64 a, .int .u64 b] w fun e w' => e = .returned (.int .u64 (addS a b)) ∧ w = w' := by
  go_enter Try.func32, Try.ntmps32
  go_wp2
  all_goals go_ret
  · exact ⟨ret_int (by unfold addS; rw [if_neg (by omega)]), rfl⟩
  · exact ⟨ret_int (by unfold addS; rw [if_pos (by omega)]), rfl⟩

set_option maxHeartbeats 400000 in
theorem radd_any (a b : Int) (w : World) (ha : 0 ≤ a) (hb : 0 ≤ b) (ha' : a ≤ 18446744073709551615) (hb' : b ≤ 18446744073709551615) :
    Calls Try.prog 26 #[.int .u64 a, .int .u64 b] w fun e w' => e = .returned (.int .u64 (addS a b)) ∧ w = w' := by
  go_enter Try.func26, Try.ntmps26
  go_wp2
  all_goals go_ret
  · exact ⟨ret_int (by unfold addS; rw [if_neg (by omega)]), rfl⟩
  · exact ⟨ret_int (by unfold addS; rw [if_pos (by omega)]), rfl⟩
end Go.Proofs.Ytfncipoiblieeaa
