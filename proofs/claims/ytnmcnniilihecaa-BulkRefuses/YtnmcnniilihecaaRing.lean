/- Contracts of package ring. -/
import Derived.Test.YtnmcnniilihecaaInts
import Derived.Deep.LoopGhost
import Derived.Deep.RegionLaw
namespace Go.Proofs.Ytnmcnniilihecaa
set_option linter.unusedVariables false
open Go.ChangeShapes Go.WideShapes Go.ChangeAt Go.RowKit

/-- A ring's block: how many there may be, how many there are, the places. -/
abbrev robj (most n : Int) (Z : List Int) : Obj := .cells ⟨.int .i64 most :: .int .i64 n :: Z.map (Value.int .i64)⟩ 80
theorem robj_set (most n : Int) (Z : List Int) (j : Nat) (z : Int) : (Array.mk (Value.int .i64 most :: Value.int .i64 n :: Z.map (Value.int .i64))).setIfInBounds (2 + j) (.int .i64 z) = ⟨.int .i64 most :: .int .i64 n :: (Z.set j z).map (Value.int .i64)⟩ := by
  rw [Nat.add_comm]; simp [List.map_set]
theorem robj_cell {w : World} {b : Nat} {most n : Int} {Z : List Int} (h : w.heap[b]? = some (robj most n Z)) {j : Nat} {z : Int} (hz : Z[j]? = some z) : w.cell? ⟨b, 2 + j, none⟩ = some (.int .i64 z) := by
  rw [cell_of h, Nat.add_comm]; simp [hz]
theorem robj_cells {w : World} {b : Nat} {most n : Int} {Z : List Int} (h : w.heap[b]? = some (robj most n Z)) : w.cell? ⟨b, 0, none⟩ = some (.int .i64 most) ∧ w.cell? ⟨b, 1, none⟩ = some (.int .i64 n) := ⟨by rw [cell_of h]; rfl, by rw [cell_of h]; rfl⟩

structure Rng (w : World) (b most : Nat) (L : List Int) : Prop where
  blk : ∃ Z : List Int, w.heap[b]? = some (robj most L.length Z) ∧ Z.length = 8 ∧ ∀ j, j < L.length → Z[j]? = L[j]?
  le : L.length ≤ most
  le8 : most ≤ 8
  wf : ∀ z ∈ L, wf64 z
section
variable {w w' : World} {b most : Nat} {L : List Int}
theorem Rng.keep (h : Rng w b most L) (hk : w'.heap[b]? = w.heap[b]?) : Rng w' b most L := by
  obtain ⟨Z, h1, h2⟩ := h.blk
  exact ⟨⟨Z, hk.trans h1, h2⟩, h.le, h.le8, h.wf⟩
theorem Rng.lt (h : Rng w b most L) : b < w.heap.size := by obtain ⟨Z, h1, _⟩ := h.blk; exact heap_lt h1
theorem Rng.below (h : Rng w b most L) (hb : Below w.heap.size w w') : Rng w' b most L := h.keep (hb.block b h.lt)
theorem Rng.ali (h : Rng w b most L) (ha : Ali w w') : Rng w' b most L := h.keep (by rw [ha.heap])
theorem Rng.frm {F : Nat → Prop} (h : Rng w b most L) (hf : Frm F w w') (hn : ¬ F b) : Rng w' b most L := h.keep (hf.block b h.lt hn)
/-- A block of another kind is another one. -/
theorem Rng.other (h : Rng w b most L) {j : Nat} {cs : Array Value} {t : TypeId} {f : Nat × Nat} (hj : w.heap[j]? = some (.cells cs t f)) (ht : t ≠ 80) : j ≠ b := by
  obtain ⟨Z, h1, _⟩ := h.blk
  rintro rfl
  rw [h1] at hj
  injection hj with hj
  injection hj with _ hj
  exact ht hj.symm
/-- Rows of int, and other blocks, stay as they are beside a ring. -/
theorem Rng.ints (h : Rng w b most L) (hf : Frm (· = b) w w') {base : Nat} {v : Value} {zs : List Int} (hi : Ints w base v zs) : Ints w' base v zs :=
  hi.frm hf (fun j hj cs hc => h.other hc (by decide) hj)
theorem Rng.kept (h : Rng w b most L) (hf : Frm (· = b) w w') {j : Nat} {cs : Array Value} {t : TypeId} {f : Nat × Nat} (hj : w.heap[j]? = some (.cells cs t f)) (ht : t ≠ 80) : w'.heap[j]? = some (.cells cs t f) := by
  rw [hf.block j (heap_lt hj) (h.other hj ht)]; exact hj
end

theorem new_some (most : Nat) (w : World) (h : most ≤ 8) :
    Calls Try.prog 43 #[.int .i64 most] w fun r w' => r = .returned (.pointer (some ⟨w.heap.size, 0, none⟩)) ∧ Rng w' w.heap.size most [] ∧ Below w.heap.size w w' := by
  have h1 : ¬ (most : Int) < 0 := by omega
  have h2 : ¬ (8 : Int) < (most : Int) := by omega
  have hr : Rng (w.alloc (robj most 0 (List.replicate 8 0))) w.heap.size most [] := ⟨⟨_, heap_alloc_at w _, rfl, by simp⟩, by simp, h, by simp⟩
  have HR := Lib.hid hr
  have HB := Lib.hid (below_alloc w (robj most 0 (List.replicate 8 0)))
  clear hr
  go_enter Try.func43, Try.ntmps43
  go_wp2
  go_ret
  exact ⟨rfl, HR.out, HB.out⟩
theorem new_none (most : Int) (w : World) (h : most < 0 ∨ 8 < most) :
    Calls Try.prog 43 #[.int .i64 most] w fun r w' => r = .returned (.pointer none) ∧ w' = w := by
  by_cases h1 : most < 0
  · go_enter Try.func43, Try.ntmps43
    go_wp2
    go_ret
    exact ⟨rfl, rfl⟩
  · have h2 : 8 < most := by omega
    go_enter Try.func43, Try.ntmps43
    go_wp2
    go_ret
    exact ⟨rfl, rfl⟩
theorem len_ring (b most : Nat) (L : List Int) (w : World) (h : Rng w b most L) :
    Calls Try.prog 35 #[.pointer (some ⟨b, 0, none⟩)] w fun r w' => r = .returned (.int .i64 L.length) ∧ w' = w := by
  obtain ⟨Z, h1, _⟩ := h.blk
  obtain ⟨c0, c1⟩ := robj_cells h1
  clear h h1
  go_enter Try.func35, Try.ntmps35
  go_wp2
  go_ret
  exact ⟨rfl, rfl⟩
theorem len_nil (w : World) : Calls Try.prog 35 #[.pointer none] w fun r w' => r = .returned (.int .i64 0) ∧ w' = w := by
  go_enter Try.func35, Try.ntmps35
  go_wp2
  go_ret
  exact ⟨rfl, rfl⟩
theorem full_ring (b most : Nat) (L : List Int) (w : World) (h : Rng w b most L) :
    Calls Try.prog 47 #[.pointer (some ⟨b, 0, none⟩)] w fun r w' => r = .returned (.bool ((L.length : Int) == (most : Int))) ∧ Ali w w' := by
  obtain ⟨Z, h1, _⟩ := h.blk
  obtain ⟨c0, c1⟩ := robj_cells h1
  clear h h1
  go_enter Try.func47, Try.ntmps47
  go_wp2
  go_quiet (fail)
  go_wp2
  go_ret
  exact ⟨rfl, drewN_ali _ _⟩
theorem full_nil (w : World) : Calls Try.prog 47 #[.pointer none] w fun r w' => r = .returned (.bool true) ∧ Ali w w' := by
  go_enter Try.func47, Try.ntmps47
  go_wp2
  go_quiet (fail)
  go_wp2
  go_ret
  exact ⟨rfl, drewN_ali _ _⟩
end Go.Proofs.Ytnmcnniilihecaa
