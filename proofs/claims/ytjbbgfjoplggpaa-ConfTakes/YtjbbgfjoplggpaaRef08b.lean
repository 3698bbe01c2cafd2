/- The reference of layer 8: Check, Bound. (Written by wip/tools/gen_ref08b.py.) -/
import Derived.Test.YtjbbgfjoplggpaaRef08
namespace Go.Proofs.Ytjbbgfjoplggpaa
set_option linter.unusedVariables false
open Go.ChangeShapes Go.WideShapes Go.ChangeAt Go.RowKit

theorem still_of {P : Program} {f : FuncId} {args : Array Value} {w : World} {v : Value} (h : Calls P f args w fun e w' => e = .returned v ∧ w = w') : Calls P f args w fun e w' => e = .returned v ∧ w' = w :=
  h.mono fun _ _ ⟨a, b⟩ => ⟨a, b.symm⟩
theorem bools_cell {w : World} {g j : Nat} {ty : TypeId} {l : List Bool} {b : Bool} (hg : w.heap.size = g) (h : l[j]? = some b) : (w.alloc (.cells ⟨l.map Value.bool⟩ ty)).cell? ⟨g, j, none⟩ = some (.bool b) := by
  subst hg
  rw [cell_of (heap_alloc_at w _)]
  simp [h]

set_option maxRecDepth 100000 in
set_option maxHeartbeats 8000000 in
theorem rcheck_any (c : Cnf) (w : World) (n : Nat) (hn : c.bad = n) :
    Calls Try.prog 11 #[.agg (aggV c.vals)] w fun r w' => r = .returned (.int .i64 n) ∧ Below w.heap.size w w' := by
  obtain ⟨g, hg⟩ : ∃ g, w.heap.size = g := ⟨_, rfl⟩
  have k0 := fun v => still_of (in_any c.mode 1 2 v)
  obtain ⟨b0, e0⟩ : ∃ b, decide (1 ≤ c.mode ∧ c.mode ≤ 2) = b := ⟨_, rfl⟩
  rw [e0] at k0
  have k1 := fun v => still_of (only_any (c.mode == 1) c.pool 1 8 v)
  obtain ⟨b1, e1⟩ : ∃ b, (if (c.mode == 1) = true then decide (1 ≤ c.pool ∧ c.pool ≤ 8) else decide (c.pool = 0)) = b := ⟨_, rfl⟩
  rw [e1] at k1
  have k2 := fun v => still_of (only_any (c.mode == 1) c.queue 0 8 v)
  obtain ⟨b2, e2⟩ : ∃ b, (if (c.mode == 1) = true then decide (0 ≤ c.queue ∧ c.queue ≤ 8) else decide (c.queue = 0)) = b := ⟨_, rfl⟩
  rw [e2] at k2
  have k3 := fun v => still_of (only_any (c.mode == 2) c.sem 1 8 v)
  obtain ⟨b3, e3⟩ : ∃ b, (if (c.mode == 2) = true then decide (1 ≤ c.sem ∧ c.sem ≤ 8) else decide (c.sem = 0)) = b := ⟨_, rfl⟩
  rw [e3] at k3
  have k4 := fun v => still_of (in_any c.fbMax 0 4 v)
  obtain ⟨b4, e4⟩ : ∃ b, decide (0 ≤ c.fbMax ∧ c.fbMax ≤ 4) = b := ⟨_, rfl⟩
  rw [e4] at k4
  have k5 := fun v => still_of (in_any c.chain 0 3 v)
  obtain ⟨b5, e5⟩ : ∃ b, decide (0 ≤ c.chain ∧ c.chain ≤ 3) = b := ⟨_, rfl⟩
  rw [e5] at k5
  have k6 := fun v => still_of (ticks_any c.timeout 1 v)
  obtain ⟨b6, e6⟩ : ∃ b, decide (1 ≤ c.timeout ∧ c.timeout ≤ 1099511627776) = b := ⟨_, rfl⟩
  rw [e6] at k6
  have k7 := fun v => still_of (ticks_any c.fbTimeout 1 v)
  obtain ⟨b7, e7⟩ : ∃ b, decide (1 ≤ c.fbTimeout ∧ c.fbTimeout ≤ 1099511627776) = b := ⟨_, rfl⟩
  rw [e7] at k7
  have k8 := fun v => still_of (in_any c.volume 1 1000 v)
  obtain ⟨b8, e8⟩ : ∃ b, decide (1 ≤ c.volume ∧ c.volume ≤ 1000) = b := ⟨_, rfl⟩
  rw [e8] at k8
  have k9 := fun v => still_of (in_any c.percent 0 100 v)
  obtain ⟨b9, e9⟩ : ∃ b, decide (0 ≤ c.percent ∧ c.percent ≤ 100) = b := ⟨_, rfl⟩
  rw [e9] at k9
  have k10 := fun v => still_of (ticks_any c.sleep 0 v)
  obtain ⟨b10, e10⟩ : ∃ b, decide (0 ≤ c.sleep ∧ c.sleep ≤ 1099511627776) = b := ⟨_, rfl⟩
  rw [e10] at k10
  have k11 := fun v => still_of (in_any c.buckets 1 8 v)
  obtain ⟨b11, e11⟩ : ∃ b, decide (1 ≤ c.buckets ∧ c.buckets ≤ 8) = b := ⟨_, rfl⟩
  rw [e11] at k11
  have k12 := fun v => still_of (ticks_any c.width 1 v)
  obtain ⟨b12, e12⟩ : ∃ b, decide (1 ≤ c.width ∧ c.width ≤ 1099511627776) = b := ⟨_, rfl⟩
  rw [e12] at k12
  have k13 := fun v => still_of (ticks_any c.window 0 v)
  obtain ⟨b13, e13⟩ : ∃ b, decide (0 ≤ c.window ∧ c.window ≤ 1099511627776) = b := ⟨_, rfl⟩
  rw [e13] at k13
  have k14 := fun v => still_of (only_any (decide (0 < c.window)) c.batch 1 4 v)
  obtain ⟨b14, e14⟩ : ∃ b, (if (decide (0 < c.window)) = true then decide (1 ≤ c.batch ∧ c.batch ≤ 4) else decide (c.batch = 0)) = b := ⟨_, rfl⟩
  rw [e14] at k14
  have k15 := fun v => still_of (in_any c.force 0 2 v)
  obtain ⟨b15, e15⟩ : ∃ b, decide (0 ≤ c.force ∧ c.force ≤ 2) = b := ⟨_, rfl⟩
  rw [e15] at k15
  have hok : c.oks = [b0, b1, b2, b3, b4, b5, b6, b7, b8, b9, b10, b11, b12, b13, b14, b15] := by
    simp only [Cnf.oks, ← e0, ← e1, ← e2, ← e3, ← e4, ← e5, ← e6, ← e7, ← e8, ← e9, ← e10, ← e11, ← e12, ← e13, ← e14, ← e15, beq_iff_eq, decide_eq_true_eq]
  obtain ⟨l, hl⟩ : ∃ l, [b0, b1, b2, b3, b4, b5, b6, b7, b8, b9, b10, b11, b12, b13, b14, b15] = l := ⟨_, rfl⟩
  have HL := Lib.hid hl
  have HB : Hid (Cnf.firstF l = n) := Lib.hid (by rw [← hl, ← hok]; exact hn)
  have HLen : Hid (l.length = 16) := Lib.hid (by rw [← hl]; rfl)
  have HC : Hid (∀ v : World, v.heap[g]? = some (vobj 24 c.vals) → _) := Lib.hid (fun v hv => Cnf.cells_vals hv)
  clear hok hl hn e0 e1 e2 e3 e4 e5 e6 e7 e8 e9 e10 e11 e12 e13 e14 e15
  go_enter Try.func11, Try.ntmps11
  go_wp2_with (refine wpList_box_agg rfl 24 _ rfl g hg c.vals rfl ?_; intro w1 h1 l1 s1)
  have h2 : w1.drew.heap[g]? = some (vobj 24 c.vals) := h1
  have B2 := Lib.hid (below_ali l1 (drew_ali w1))
  have s2 : w1.drew.heap.size = g + 1 := s1
  refine region_tail 60 (by kernel_rfl) (by kernel_rfl) ?_
  simp only [List.take_succ_cons, List.take_zero, List.drop_succ_cons, List.drop_zero]
  generalize w1.drew = wd at *
  obtain ⟨c0, c1, c2, c3, c4, c5, c6, c7, c8, c9, c10, c11, c12, c13, c14, c15⟩ := HC.out _ h2
  clear h1 h2 l1 s1 HC
  repeat still_step
  still_call (k0 _)
  clear k0
  repeat still_step
  still_call (k1 _)
  clear k1
  repeat still_step
  still_call (k2 _)
  clear k2
  repeat still_step
  still_call (k3 _)
  clear k3
  repeat still_step
  still_call (k4 _)
  clear k4
  repeat still_step
  still_call (k5 _)
  clear k5
  repeat still_step
  still_call (k6 _)
  clear k6
  repeat still_step
  still_call (k7 _)
  clear k7
  repeat still_step
  still_call (k8 _)
  clear k8
  repeat still_step
  still_call (k9 _)
  clear k9
  repeat still_step
  still_call (k10 _)
  clear k10
  repeat still_step
  still_call (k11 _)
  clear k11
  repeat still_step
  still_call (k12 _)
  clear k12
  repeat still_step
  still_call (k13 _)
  clear k13
  repeat still_step
  still_call (k14 _)
  clear k14
  repeat still_step
  still_call (k15 _)
  clear k15
  refine wpStill_nil ?_
  clear c0 c1 c2 c3 c4 c5 c6 c7 c8 c9 c10 c11 c12 c13 c14 c15
  have hce : ∀ j b, l[j]? = some b → (wd.alloc (.cells #[.bool b0, .bool b1, .bool b2, .bool b3, .bool b4, .bool b5, .bool b6, .bool b7, .bool b8, .bool b9, .bool b10, .bool b11, .bool b12, .bool b13, .bool b14, .bool b15] 4)).cell? ⟨g + 1, j, none⟩ = some (.bool b) := by
    rw [← HL.out]
    exact fun j b h => bools_cell (l := [b0, b1, b2, b3, b4, b5, b6, b7, b8, b9, b10, b11, b12, b13, b14, b15]) s2 h
  have HCE := Lib.hid hce
  have BE := Lib.hid (B2.out.trans ((below_alloc wd (.cells #[.bool b0, .bool b1, .bool b2, .bool b3, .bool b4, .bool b5, .bool b6, .bool b7, .bool b8, .bool b9, .bool b10, .bool b11, .bool b12, .bool b13, .bool b14, .bool b15] 4)).mono (by omega : g ≤ wd.heap.size)))
  clear hce
  go_wp2
  generalize wd.alloc (.cells #[.bool b0, .bool b1, .bool b2, .bool b3, .bool b4, .bool b5, .bool b6, .bool b7, .bool b8, .bool b9, .bool b10, .bool b11, .bool b12, .bool b13, .bool b14, .bool b15] 4) = we at *
  go_loopg [4] 16 (fun k v4 wr => ∃ i : Nat, i + k = 16 ∧ v4 = .int .i64 i ∧ (∀ j, j < i → l[j]? = some true) ∧ we = wr)
  case atStart => exact ⟨0, by omega, rfl, fun j hj => by omega, rfl⟩
  case round =>
    obtain ⟨i, hik, rfl, hall, rfl⟩ := hrel
    have HA := Lib.hid hall
    clear hall
    by_cases hi : i < 16
    · obtain ⟨b, hb⟩ : ∃ b, l[i]? = some b := ⟨_, List.getElem?_eq_getElem (by rw [HLen.out]; exact hi)⟩
      have hc := HCE.out i b hb
      have HI := Lib.hid hb
      clear hb
      cases b
      · go_wp2
        go_ret
        have hw := Cnf.firstF_at HA.out HI.out
        rw [HB.out] at hw
        exact ⟨by rw [hw]; simp, by subst hg; exact BE.out⟩
      · go_wp2
        go_roundg (16 - (i + 1))
        case measure => omega
        case rel =>
          refine ⟨i + 1, by omega, by simp, fun j hj => ?_, rfl⟩
          by_cases hji : j < i
          · exact HA.out j hji
          · obtain rfl : j = i := by omega
            exact HI.out
    · go_wp2
      go_ret
      have hw := Cnf.firstF_all (l := l) (fun j hj => HA.out j (by rw [HLen.out] at hj; omega))
      rw [HB.out] at hw
      exact ⟨by rw [hw]; rfl, by subst hg; exact BE.out⟩
end Go.Proofs.Ytjbbgfjoplggpaa
