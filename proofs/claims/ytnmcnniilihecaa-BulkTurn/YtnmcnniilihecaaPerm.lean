/- Contracts of package permit: New, Used, Room, Holds. -/
import Derived.Test.YtnmcnniilihecaaPermMap
import Derived.Deep.LoopGhost
import Derived.Deep.RegionLaw
namespace Go.Proofs.Ytnmcnniilihecaa
set_option linter.unusedVariables false
open Go.ChangeShapes Go.WideShapes Go.ChangeAt Go.RowKit

abbrev psobj (most m : Nat) : Obj := .cells #[.int .i64 most, .map (some m)] 75
abbrev phobj (h : Hol) : Obj := .cells #[.int .i64 h.1, .int .i64 h.2] 68
/-- A set in block b, its map in block m: so many permits, and who holds them, rising. -/
structure Prm (w : World) (b m most : Nat) (L : List Hol) : Prop where
  blk : w.heap[b]? = some (psobj most m)
  mp : MapH w m L
  rise : Rise L
  le : L.length ≤ most
  le8 : most ≤ 8
  wf : ∀ h ∈ L, wfH h
section
variable {w w' : World} {b m most : Nat} {L L' : List Hol}
theorem Prm.keep (h : Prm w b m most L) (hb : w'.heap[b]? = w.heap[b]?) (hm : w'.heap[m]? = w.heap[m]?) : Prm w' b m most L := ⟨hb.trans h.blk, h.mp.keep hm, h.rise, h.le, h.le8, h.wf⟩
theorem Prm.below (h : Prm w b m most L) (hb : Below w.heap.size w w') : Prm w' b m most L := h.keep (hb.block b (heap_lt h.blk)) (hb.block m h.mp.lt)
theorem Prm.ali (h : Prm w b m most L) (ha : Ali w w') : Prm w' b m most L := h.below (ali_below ha)
theorem Prm.alloc (h : Prm w b m most L) (o : Obj) : Prm (w.alloc o) b m most L := h.below (below_alloc w o)
theorem Prm.cells (h : Prm w b m most L) : w.cell? ⟨b, 0, none⟩ = some (.int .i64 most) ∧ w.cell? ⟨b, 1, none⟩ = some (.map (some m)) := ⟨by rw [cell_of h.blk]; rfl, by rw [cell_of h.blk]; rfl⟩
/-- A block of cells is not the map's. -/
theorem Prm.other (h : Prm w b m most L) {j : Nat} {cs : Array Value} {t : TypeId} {f : Nat × Nat} (hj : w.heap[j]? = some (.cells cs t f)) : j ≠ m := by
  obtain ⟨es, c, hm⟩ := h.mp.obj
  rintro rfl
  rw [hm] at hj
  cases hj
theorem Prm.kept (h : Prm w b m most L) (hf : Frm (· = m) w w') {j : Nat} {cs : Array Value} {t : TypeId} {f : Nat × Nat} (hj : w.heap[j]? = some (.cells cs t f)) : w'.heap[j]? = some (.cells cs t f) := by
  rw [hf.block j (heap_lt hj) (h.other hj)]; exact hj
theorem Prm.after (h : Prm w b m most L) (hf : Frm (· = m) w w') (hm : MapH w' m L') (hr : Rise L') (hl : L'.length ≤ most) (hw : ∀ x ∈ L', wfH x) : Prm w' b m most L' := ⟨h.kept hf h.blk, hm, hr, hl, h.le8, hw⟩
end

theorem new_prm (most : Nat) (w : World) (h : most ≤ 8) :
    Calls Try.prog 42 #[.int .i64 most] w fun r w' => ∃ b, r = .returned (.pointer (some ⟨b, 0, none⟩)) ∧ ∃ m, Prm w' b m most [] ∧ Below w.heap.size w w' ∧ w.heap.size ≤ b ∧ w.heap.size ≤ m := by
  have h1 : ¬ (most : Int) < 0 := by omega
  have h2 : ¬ (8 : Int) < (most : Int) := by omega
  have hr : Prm ((w.alloc (.map #[] 0)).alloc (psobj most w.heap.size)) (w.heap.size + 1) w.heap.size most [] :=
    ⟨by have := heap_alloc_at (w.alloc (.map #[] 0)) (psobj most w.heap.size); simpa using this, (mapH_new w).keep (heap_alloc_lt (by simp)), rise_nil, by simp, h, by simp⟩
  have hb : Below w.heap.size w ((w.alloc (.map #[] 0)).alloc (psobj most w.heap.size)) := ((Below.refl _ _).alloc (Nat.le_refl _) _).alloc (by simp) _
  have HR := Lib.hid hr
  have HB := Lib.hid hb
  clear hr hb
  have hmm := @run_makeMap Try.prog
  go_enter Try.func42, Try.ntmps42
  go_wp2
  go_ret
  exact ⟨w.heap.size + 1, rfl, w.heap.size, HR.out, HB.out, by omega, Nat.le_refl _⟩
theorem new_bad (most : Int) (w : World) (h : most < 0 ∨ 8 < most) :
    Calls Try.prog 42 #[.int .i64 most] w fun r w' => r = .returned (.pointer none) ∧ w' = w := by
  by_cases h1 : most < 0
  · go_enter Try.func42, Try.ntmps42
    go_wp2
    go_ret
    exact ⟨rfl, rfl⟩
  · have h2 : 8 < most := by omega
    go_enter Try.func42, Try.ntmps42
    go_wp2
    go_ret
    exact ⟨rfl, rfl⟩

theorem used_prm (b m most : Nat) (L : List Hol) (w : World) (h : Prm w b m most L) :
    Calls Try.prog 30 #[.pointer (some ⟨b, 0, none⟩)] w fun r w' => r = .returned (.int .i64 L.length) ∧ w' = w := by
  obtain ⟨c0, c1⟩ := h.cells
  have hl := h.mp.len
  clear h
  go_enter Try.func30, Try.ntmps30
  go_wp2
  go_ret
  exact ⟨rfl, rfl⟩
theorem used_none (w : World) : Calls Try.prog 30 #[.pointer none] w fun r w' => r = .returned (.int .i64 0) ∧ w' = w := by
  go_enter Try.func30, Try.ntmps30
  go_wp2
  go_ret
  exact ⟨rfl, rfl⟩
theorem room_prm (b m most : Nat) (L : List Hol) (w : World) (h : Prm w b m most L) :
    Calls Try.prog 38 #[.pointer (some ⟨b, 0, none⟩)] w fun r w' => r = .returned (.bool (decide (L.length < most))) ∧ Ali w w' := by
  obtain ⟨c0, c1⟩ := h.cells
  have hl : ∀ ty n, (Builtin.len_ #[73] ty #[.map (some m)]).run Try.prog (w.drewN n) = .ok (.int .i64 L.length) (w.drewN n) := fun ty n => (h.mp.keep (w' := w.drewN n) rfl).len ty
  clear h
  go_enter Try.func38, Try.ntmps38
  go_wp2
  go_quiet (fail)
  go_wp2
  go_ret
  exact ⟨rfl, drewN_ali _ _⟩
theorem room_none (w : World) : Calls Try.prog 38 #[.pointer none] w fun r w' => r = .returned (.bool false) ∧ Ali w w' := by
  go_enter Try.func38, Try.ntmps38
  go_wp2
  go_quiet (fail)
  go_wp2
  go_ret
  exact ⟨rfl, drewN_ali _ _⟩
end Go.Proofs.Ytnmcnniilihecaa
