/- The reference of layer 8: Bound, of a configuration that may be. -/
import Derived.Test.YtjbbgfjoplggpaaRef08b
namespace Go.Proofs.Ytjbbgfjoplggpaa
set_option linter.unusedVariables false
open Go.ChangeShapes Go.WideShapes Go.ChangeAt Go.RowKit

set_option maxRecDepth 100000 in
set_option maxHeartbeats 2000000 in
theorem rbound_any (c : Cnf) (w : World) (hm : c.May) :
    Calls Try.prog 15 #[.agg (aggV c.vals)] w fun r w' => r = .returned (.int .u64 c.bound) ∧ Below w.heap.size w w' := by
  obtain ⟨g, hg⟩ : ∃ g, w.heap.size = g := ⟨_, rfl⟩
  have e5 := hm.chain
  have e6 := hm.timeout
  have e7 := hm.fbTimeout
  have e13 := hm.window
  have hN := Cnf.bound_eq e5.1 e5.2 ⟨by omega, e7.2⟩ ⟨by omega, by omega⟩ e13
  have HC : Hid (∀ (v : World) (ty : TypeId), v.heap[g]? = some (vobj ty c.vals) → v.cell? ⟨g, 5, none⟩ = some (.int .i64 c.chain) ∧ v.cell? ⟨g, 6, none⟩ = some (.int .u64 c.timeout) ∧ v.cell? ⟨g, 7, none⟩ = some (.int .u64 c.fbTimeout) ∧ v.cell? ⟨g, 13, none⟩ = some (.int .u64 c.window)) :=
    Lib.hid (fun v ty hv => ⟨vobj_cell hv rfl, vobj_cell hv rfl, vobj_cell hv rfl, vobj_cell hv rfl⟩)
  generalize c.bound = N at *
  generalize c.vals = n0 at *
  generalize c.timeout = t at *
  generalize c.fbTimeout = f at *
  generalize c.window = q at *
  generalize c.chain = k at *
  clear hm
  have HR : Hid (∀ F, k * f = F → 0 ≤ F → F ≤ 3298534883328 → sumS [t, q, F, 1] = N) := Lib.hid (fun F hF h0 h1 => by rw [Cnf.sum4 (by omega) (by omega) h0 (by omega), hN, hF])
  have a1 := fun v => radd_any 0 f v (by omega) (by omega) (by omega) (by omega)
  have a2 := fun v => radd_any f f v (by omega) (by omega) (by omega) (by omega)
  have a3 := fun v => radd_any (f + f) f v (by omega) (by omega) (by omega) (by omega)
  rw [show addS 0 f = f by unfold addS; rw [if_pos (by omega)]; omega] at a1
  rw [show addS f f = f + f by unfold addS; rw [if_pos (by omega)]] at a2
  rw [show addS (f + f) f = f + f + f by unfold addS; rw [if_pos (by omega)]] at a3
  clear hN
  obtain ⟨F, hF, hF0, hF1, hcs⟩ : ∃ F, k * f = F ∧ 0 ≤ F ∧ F ≤ 3298534883328 ∧ ((k = 0 ∧ F = 0) ∨ (k = 1 ∧ F = f) ∨ (k = 2 ∧ F = f + f) ∨ (k = 3 ∧ F = f + f + f)) := by
    obtain rfl | rfl | rfl | rfl : k = 0 ∨ k = 1 ∨ k = 2 ∨ k = 3 := by omega
    · exact ⟨0, by omega, by omega, by omega, by simp⟩
    · exact ⟨f, by omega, by omega, by omega, by simp⟩
    · exact ⟨f + f, by omega, by omega, by omega, by simp⟩
    · exact ⟨f + f + f, by omega, by omega, by omega, by simp⟩
  have HS := Lib.hid (HR.out F hF hF0 hF1)
  have HCS := Lib.hid hcs
  clear HR hcs hF
  go_enter Try.func15, Try.ntmps15
  go_wp2_with (refine wpList_box_agg rfl 24 _ rfl g hg n0 rfl ?_; intro w1 h1 l1 s1)
  obtain ⟨c5, c6, c7, c13⟩ := HC.out _ _ h1
  clear HC h1
  have hrow : ∀ F, 0 ≤ F → F ≤ 3298534883328 → Row .u64 (w1.alloc (.cells #[.int .u64 t, .int .u64 q, .int .u64 F, .int .u64 1] 22)) (some ⟨g + 1, 0, none⟩) 4 [t, q, F, 1] := fun F h0 h1 =>
    row_u64 (g := g + 1) (ty := 22) (zs := [t, q, F, 1]) (by rw [← s1]; exact heap_alloc_at w1 _) (by simp [maxLen]) (by
      intro n hn
      simp only [List.mem_cons, List.not_mem_nil, or_false] at hn
      rcases hn with rfl | rfl | rfl | rfl <;> omega)
  have HRO := Lib.hid hrow
  clear hrow
  rcases HCS.out with ⟨rfl, rfl⟩ | ⟨rfl, rfl⟩ | ⟨rfl, rfl⟩ | ⟨rfl, rfl⟩
  all_goals
    refine wp_loop_rounds 5 ?_
    repeat any_goals (rw [rounds_succ]; go_wp2_with (go_at_call 25; first | (refine (a1 _).mono ?_; clear a1; rintro e w' ⟨rfl, rfl⟩) | (refine (a2 _).mono ?_; clear a2; rintro e w' ⟨rfl, rfl⟩) | (refine (a3 _).mono ?_; clear a3; rintro e w' ⟨rfl, rfl⟩)))
    refine (rsum_any _ 4 4 _ _ (HRO.out _ hF0 hF1)).mono ?_
    rintro r w3 ⟨rfl, rfl⟩
    rw [show ∀ a b c d : Int, List.take 4 [a, b, c, d] = [a, b, c, d] from fun _ _ _ _ => rfl, HS.out]
    go_wp2
    go_ret
    exact ⟨rfl, by subst hg; exact l1.trans ((below_alloc w1 _).mono (by omega))⟩
end Go.Proofs.Ytjbbgfjoplggpaa
