/- slices.SortFunc over permit's holders by permit.compare, twelve at most: the rising list. -/
import Derived.Test.YtikocninbbkgdaaPermDo
import Derived.Shelf.SlSortCmp.InsertionK
import Derived.WalkLawsBesides
import Derived.Outline
import Derived.StillTailTactics
namespace Go.Proofs.Ytikocninbbkgdaa
set_option linter.unusedVariables false
open Go.ChangeShapes Go.WideShapes Go.ChangeAt Go.RowKit

theorem cmp_int (x y : Int) (w : World) : Calls Try.prog 31 #[.int .i64 x, .int .i64 y] w fun r w' => r = .returned (.int .i64 (cmpI x y)) ∧ w' = w := by
  by_cases h1 : x < y
  · have e : cmpI x y = -1 := by simp [cmpI, h1]
    rw [e]
    clear e
    go_enter Try.func31, Try.ntmps31
    go_wp2
    go_ret
    exact ⟨rfl, rfl⟩
  · by_cases h2 : y < x
    · have e : cmpI x y = 1 := by simp [cmpI, h1, h2]
      rw [e]
      clear e
      go_enter Try.func31, Try.ntmps31
      go_wp2
      go_ret
      exact ⟨rfl, rfl⟩
    · have e : cmpI x y = 0 := by simp [cmpI, h1, h2]
      rw [e]
      clear e
      go_enter Try.func31, Try.ntmps31
      go_wp2
      go_ret
      exact ⟨rfl, rfl⟩
theorem or_two (g : Nat) (x y : Int) (w : World) (c0 : w.cell? ⟨g, 0, none⟩ = some (.int .i64 x)) (c1 : w.cell? ⟨g, 1, none⟩ = some (.int .i64 y)) :
    Calls Try.prog 30 #[.slice (some ⟨g, 0, none⟩) 2 2] w fun r w' => r = .returned (.int .i64 (if x = 0 then y else x)) ∧ w' = w := by
  by_cases hx : x = 0
  · rw [if_pos hx]
    subst hx
    by_cases hy : y = 0
    · subst hy
      go_enter Try.func30, Try.ntmps30
      go_wp2
      refine wp_loop_rounds 3 ?_
      repeat any_goals (rw [rounds_succ]; go_wp2)
      go_ret
      exact ⟨rfl, rfl⟩
    · have hy' : (y == 0) = false := by simp [hy]
      clear hy
      go_enter Try.func30, Try.ntmps30
      go_wp2
      refine wp_loop_rounds 3 ?_
      repeat any_goals (rw [rounds_succ]; go_wp2)
      go_ret
      exact ⟨rfl, rfl⟩
  · rw [if_neg hx]
    have hx' : (x == 0) = false := by simp [hx]
    clear hx
    go_enter Try.func30, Try.ntmps30
    go_wp2
    refine wp_loop_rounds 3 ?_
    repeat any_goals (rw [rounds_succ]; go_wp2)
    go_ret
    exact ⟨rfl, rfl⟩
set_option maxRecDepth 100000 in
theorem len_small (x : Int) (w : World) (h : 0 ≤ x) (h' : x ≤ 12) : Calls Try.prog 41 #[.int .u64 x] w fun r w' => (∃ l : Int, r = .returned (.int .i64 l)) ∧ w = w' := by
  go_enter Try.func41, Try.ntmps41
  go_wp2
  all_goals go_ret
  all_goals exact ⟨⟨_, rfl⟩, rfl⟩
theorem len_uint (x : Int) (w : World) (h : 0 ≤ x) (h' : x ≤ 12) : Calls Try.prog 29 #[.int .u64 x] w fun r w' => (∃ l : Int, r = .returned (.int .i64 l)) ∧ w = w' := by
  have hl := len_small x w h h'
  go_enter Try.func29, Try.ntmps29
  go_wp2_with (go_at_call 41; refine hl.mono ?_; rintro r w' ⟨⟨l, rfl⟩, rfl⟩)
  go_ret
  exact ⟨⟨_, rfl⟩, rfl⟩

theorem region_tail {P : Program} {id : Nat} {Q : Exit → Act → World → Prop} {a : Act} {w : World} {l : List Oper} (n : Nat) (hm : P.follows .mixedOrders = true) (hB : Region.lexTailB .any l.toArray n = true)
    (h : wpStill P l.toArray w.drew (fun a' => wpList P l.toArray Q (l.drop n) a' w.drew) (l.take n) a) : (Code.region id l.toArray true).wp P Q a w := wp_region_still_tail n hm hB h

set_option maxHeartbeats 2000000 in
theorem compare_any (a1 a2 b1 b2 : Int) (W : World) : Calls Try.prog 26 #[.agg #[.int .i64 a1, .int .i64 a2], .agg #[.int .i64 b1, .int .i64 b2]] W fun r w' => r = .returned (.int .i64 (cmpH (a1, a2) (b1, b2))) ∧ ∃ q os, w' = Sort.grow (W.drewN q) os := by
  have h1 := fun w => cmp_int a1 b1 w
  have h2 := fun w => cmp_int a2 b2 w
  have e : cmpH (a1, a2) (b1, b2) = if cmpI a1 b1 = 0 then cmpI a2 b2 else cmpI a1 b1 := rfl
  have ho := fun (w : World) => or_two w.heap.size (cmpI a1 b1) (cmpI a2 b2) (w.alloc (.cells #[.int .i64 (cmpI a1 b1), .int .i64 (cmpI a2 b2)] 3)) (by rw [cell_of (heap_alloc_at w _)]; rfl) (by rw [cell_of (heap_alloc_at w _)]; rfl)
  rw [← e] at ho
  generalize cmpH (a1, a2) (b1, b2) = r at ho ⊢
  generalize cmpI a1 b1 = r1 at *
  generalize cmpI a2 b2 = r2 at *
  clear e
  have k1 : ((W.alloc (hobj (a1, a2))).alloc (hobj (b1, b2))).drew.heap[W.heap.size]? = some (hobj (a1, a2)) := kb_alloc (heap_alloc_at W _) _
  have k2 : ((W.alloc (hobj (a1, a2))).alloc (hobj (b1, b2))).drew.heap[W.heap.size + 1]? = some (hobj (b1, b2)) := by
    have := heap_alloc_at (W.alloc (hobj (a1, a2))) (hobj (b1, b2))
    rw [show (W.alloc (hobj (a1, a2))).heap.size = W.heap.size + 1 by simp] at this
    exact this
  have kg : ∃ q os, ((W.alloc (hobj (a1, a2))).alloc (hobj (b1, b2))).drew = Sort.grow (W.drewN q) os := ⟨1, _, by rw [Sort.alloc_eq_grow, Sort.alloc_eq_grow, Sort.grow_grow]; rfl⟩
  go_enter Try.func26, Try.ntmps26
  go_wp2_with fail
  refine region_tail 10 (by kernel_rfl) (by kernel_rfl) ?_
  simp only [List.take_succ_cons, List.take_zero, List.drop_succ_cons, List.drop_zero]
  generalize hwd : ((W.alloc (hobj (a1, a2))).alloc (hobj (b1, b2))).drew = wd at *
  obtain ⟨c0, c1⟩ := hcells k1
  obtain ⟨d0, d1⟩ := hcells k2
  have KG := Lib.hid kg
  clear k1 k2 kg hwd
  repeat still_step
  still_call (h1 _)
  repeat still_step
  still_call (h2 _)
  refine wpStill_nil ?_
  go_wp2_with fail
  refine (ho wd).mono ?_
  rintro r' w' ⟨rfl, rfl⟩
  go_wp2
  go_ret
  refine ⟨rfl, ?_⟩
  obtain ⟨q, os, e⟩ := KG.out
  rw [e, Sort.alloc_eq_grow, Sort.grow_grow]
  exact ⟨q, _, rfl⟩

/-- The laying of the library's insertion sort at this program. -/
def sortRen : Go.Shelf.Ren := ⟨fun | 20 => 32 | n => n, fun | 24 => 39 | 22 => 35 | 3 => 3 | 25 => 55 | 4 => 4 | 0 => 0 | n => n, fun n => n⟩
theorem sortLays : SlLaysF0.n20 Try.prog sortRen where
  mixed := by kernel_rfl
  f20 := ⟨Try.f32.name, by decide, Try.func32.trans (congrArg some (by kernel_rfl))⟩
  t0 := Try.underlying0
  a0 := Try.isAgg0
  z0 := Try.sizeOf0
  v0 := Try.zeroValue0
  t3 := Try.underlying3
  a3 := Try.isAgg3
  z3 := Try.sizeOf3
  v3 := Try.zeroValue3
  t4 := Try.underlying4
  a4 := Try.isAgg4
  z4 := Try.sizeOf4
  v4 := Try.zeroValue4
  t22 := Try.underlying35
  a22 := Try.isAgg35
  z22 := Try.sizeOf35
  v22 := Try.zeroValue35
  t25 := Try.underlying55
  a25 := Try.isAgg55
  z25 := Try.sizeOf55
  v25 := Try.zeroValue55
def encH (h : Hol) : List Value := [.int .i64 h.1, .int .i64 h.2]
theorem cmpLays (blk off size : Nat) (w : World) : CmpLays Try.prog 26 #[] encH 2 cmpH blk off size w :=
  fun _ _ _ _ x y => compare_any x.1 x.2 y.1 y.2 _
theorem lt_cmpH : ltOf cmpH = ltH := by funext a b; exact cmpH_lt a b
theorem swoH : Sort.SWO ltH where
  irrefl := ltH_irrefl
  trans := fun _ _ _ h k => ltH_trans h k
  ntrans := fun _ _ _ h k => by rw [ltH_not] at *; omega
theorem ins_any (blk off cap : Nat) (d : Array Hol) (w : World) (hH : Sort.HoldsK encH 2 w blk off d) (hblk : blk < w.heap.size) (h12 : d.size ≤ 12) :
    Calls Try.prog 32 #[.slice (some ⟨blk, off, none⟩) d.size cap, .int .i64 0, .int .i64 d.size, .func (.func 26) #[] #[]] w fun r w' => r = .returned (.tuple #[]) ∧ ∃ n os, w' = sortWorldK encH 2 w blk off n (Sort.insertionSort ltH d 0 d.size) os := by
  have eg : ∀ args w, (callFunc 26 args).run Try.prog w = .ok (.enter 26 args) w := enters_of Try.func26 (by kernel_rfl) rfl
  have := AnyQ.insertionSortCmpFunc sortLays 2 Try.isAgg39 Try.sizeOf39 encH (fun _ => rfl) (fun x v hv => by simp [encH] at hv; rcases hv with rfl | rfl <;> rfl) cmpH 26 #[] blk off cap 0 d.size d w eg (cmpLays blk off d.size w) hH hblk (Nat.zero_le _) (Nat.le_refl _) (by omega)
  rw [lt_cmpH] at this
  exact this
end Go.Proofs.Ytikocninbbkgdaa
