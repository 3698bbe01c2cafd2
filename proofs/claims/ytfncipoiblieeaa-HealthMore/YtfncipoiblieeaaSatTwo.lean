/- Contract of sat.Sum of two numbers: what the call returns, the world as it was. -/
import Derived.Test.YtfncipoiblieeaaSatAdd
namespace Go.Proofs.Ytfncipoiblieeaa
open Go.ChangeShapes Go.WideShapes Go.ChangeAt Go.RowKit

/-- The sum of two numbers that lie in a row. -/
theorem sum_two (b off cap : Nat) (x y : Int) (w : World) (hx : 0 ≤ x) (hy : 0 ≤ y) (hx' : x ≤ 18446744073709551615) (hy' : y ≤ 18446744073709551615)
    (c0 : w.cell? ⟨b, off, none⟩ = some (.int .u64 x)) (c1 : w.cell? ⟨b, off + 1, none⟩ = some (.int .u64 y)) :
    Calls Try.prog 25 #[.slice (some ⟨b, off, none⟩) 2 cap] w fun e w' => e = .returned (.int .u64 (addS x y)) ∧ w = w' := by
  have h0 : addS 0 x = x := by unfold addS; rw [if_pos (by omega)]; omega
  have a0 := add_any 0 x w (by omega) hx (by omega) hx'
  rw [h0] at a0
  have a1 := add_any x y w hx hy hx' hy'
  clear h0
  generalize addS x y = z at *
  go_enter Try.func25, Try.ntmps25
  go_wp2
  refine wp_loop_rounds 3 ?_
  repeat any_goals (rw [rounds_succ]; go_wp2_with (go_at_call 32; first | (refine a0.mono ?_; clear a0; rintro e w' ⟨rfl, rfl⟩) | (refine a1.mono ?_; clear a1; rintro e w' ⟨rfl, rfl⟩)))
  all_goals (go_ret; exact ⟨rfl, rfl⟩)
end Go.Proofs.Ytfncipoiblieeaa
