/- Contracts of package breaker. -/
import Derived.Test.YtnggcegoomhneaaSatAdd
import Derived.Test.YtnggcegoomhneaaCnfCell
import Derived.Test.YtnggcegoomhneaaLater
namespace Go.Proofs.Ytnggcegoomhneaa
set_option linter.unusedVariables false
open Go.ChangeShapes Go.WideShapes Go.ChangeAt Go.RowKit

/-- A breaker's numbers. -/
structure BK where
  sleep : Int
  force : Int
  state : Int
  since : Int
namespace BK
structure Fits (x : BK) : Prop where
  sleep : 0 ≤ x.sleep ∧ x.sleep ≤ 18446744073709551615
  since : 0 ≤ x.since ∧ x.since ≤ 18446744073709551615
/-- One of a configuration, closed. -/
def ofC (c : Cnf) : BK := ⟨c.sleep, c.force, 1, 0⟩
theorem ofC_fits {c : Cnf} (h : c.Fits) : (ofC c).Fits := ⟨h.sleep, by show (0 : Int) ≤ 0 ∧ (0 : Int) ≤ 18446744073709551615; decide⟩
/-- Who asks: what is told, and what it is then. -/
def wakes (x : BK) (now : Int) : Prop := ¬ x.force = 1 ∧ ¬ x.force = 2 ∧ x.state = 2 ∧ addS x.since x.sleep ≤ now
instance (x : BK) (now : Int) : Decidable (x.wakes now) := by unfold wakes; infer_instance
def asked (x : BK) (now : Int) : Int := if x.force = 1 then 3 else if x.force = 2 ∨ x.state = 1 then 1 else if x.wakes now then 2 else 3
def ask (x : BK) (now : Int) : BK := if x.wakes now then { x with state := 3 } else x
def trips (x : BK) : Bool := decide (x.state = 1 ∧ x.force = 0)
def trip (x : BK) (now : Int) : BK := if x.state = 1 ∧ x.force = 0 then { x with state := 2, since := now } else x
def half (x : BK) : Bool := decide (x.state = 3)
def done (x : BK) (now : Int) (ok : Bool) : BK := if x.state = 3 then (if ok then { x with state := 1 } else { x with state := 2, since := now }) else x
def back (x : BK) : BK := if x.state = 3 then { x with state := 2 } else x
theorem ask_fits {x : BK} (h : x.Fits) (now : Int) : (x.ask now).Fits := by unfold ask; split; exact ⟨h.sleep, h.since⟩; exact h
theorem trip_fits {x : BK} (h : x.Fits) {now : Int} (hn : 0 ≤ now ∧ now ≤ 18446744073709551615) : (x.trip now).Fits := by unfold trip; split; exact ⟨h.sleep, hn⟩; exact h
theorem done_fits {x : BK} (h : x.Fits) {now : Int} (hn : 0 ≤ now ∧ now ≤ 18446744073709551615) (ok : Bool) : (x.done now ok).Fits := by
  unfold done; split
  · split; exact ⟨h.sleep, h.since⟩; exact ⟨h.sleep, hn⟩
  · exact h
theorem back_fits {x : BK} (h : x.Fits) : x.back.Fits := by unfold back; split; exact ⟨h.sleep, h.since⟩; exact h
end BK
/-- A store into the block that may turn. -/
theorem Frm.on {a w : World} {b : Nat} (h : Frm (· = b) a w) (o : Nat) (u : Value) : Frm (· = b) a (w.setCell ⟨b, o, none⟩ u) := h.set (p := ⟨b, o, none⟩) rfl u
/-- A breaker's block. -/
abbrev bobj (x : BK) : Obj := .cells #[.int .u64 x.sleep, .int .i64 x.force, .int .i64 x.state, .int .u64 x.since] 54
def Brk (w : World) (b : Nat) (x : BK) : Prop := w.heap[b]? = some (bobj x)
section
variable {w w' : World} {b : Nat} {x : BK}
theorem Brk.cells (h : Brk w b x) : w.cell? ⟨b, 0, none⟩ = some (.int .u64 x.sleep) ∧ w.cell? ⟨b, 1, none⟩ = some (.int .i64 x.force) ∧ w.cell? ⟨b, 2, none⟩ = some (.int .i64 x.state) ∧ w.cell? ⟨b, 3, none⟩ = some (.int .u64 x.since) :=
  ⟨by rw [cell_of h]; rfl, by rw [cell_of h]; rfl, by rw [cell_of h]; rfl, by rw [cell_of h]; rfl⟩
theorem Brk.lt (h : Brk w b x) : b < w.heap.size := heap_lt h
theorem Brk.below (h : Brk w b x) (hb : Below w.heap.size w w') : Brk w' b x := kb_below h hb
theorem Brk.ali (h : Brk w b x) (ha : Ali w w') : Brk w' b x := h.below (ali_below ha)
theorem Brk.frm {F : Nat → Prop} (h : Brk w b x) (hf : Frm F w w') (hn : ¬ F b) : Brk w' b x := (hf.block b h.lt hn).trans h
/-- A block of another kind is another one, and stays. -/
theorem Brk.other (h : Brk w b x) {j : Nat} {cs : Array Value} {t : TypeId} {f : Nat × Nat} (hj : w.heap[j]? = some (.cells cs t f)) (ht : t ≠ 54) : j ≠ b := by
  rintro rfl
  rw [show w.heap[j]? = _ from h] at hj
  injection hj with hj
  injection hj with _ hj
  exact ht hj.symm
theorem Brk.kept (h : Brk w b x) (hf : Frm (· = b) w w') {j : Nat} {cs : Array Value} {t : TypeId} {f : Nat × Nat} (hj : w.heap[j]? = some (.cells cs t f)) (ht : t ≠ 54) : w'.heap[j]? = some (.cells cs t f) := by
  rw [hf.block j (heap_lt hj) (h.other hj ht)]; exact hj
theorem Brk.state (h : Brk w b x) (n : Int) : Brk (w.setCell ⟨b, 2, none⟩ (.int .i64 n)) b { x with state := n } := by
  unfold Brk at *
  rw [heap_set_same h]; rfl
theorem Brk.since (h : Brk w b x) (n : Int) : Brk (w.setCell ⟨b, 3, none⟩ (.int .u64 n)) b { x with since := n } := by
  unfold Brk at *
  rw [heap_set_same h]; rfl
end

set_option maxRecDepth 100000 in
set_option maxHeartbeats 1000000 in
theorem new_brk (c : Cnf) (w : World) :
    Calls Try.prog 10 #[.agg (aggV c.vals)] w fun r w' => ∃ b, r = .returned (.pointer (some ⟨b, 0, none⟩)) ∧ w.heap.size ≤ b ∧ Brk w' b (BK.ofC c) ∧ Below w.heap.size w w' := by
  obtain ⟨g, hg⟩ : ∃ g, w.heap.size = g := ⟨_, rfl⟩
  go_enter Try.func10, Try.ntmps10
  go_wp2_with (first
    | (refine wpList_box_agg rfl 24 _ rfl g hg c.vals rfl ?_; intro w1 h1 l1 s1;
       obtain ⟨c0, c1, c2, c3, c4, c5, c6, c7, c8, c9, c10, c11, c12, c13, c14, c15⟩ := Cnf.cells_vals h1;
       have HO := Lib.hid (heap_alloc_at w1 (bobj (BK.ofC c)));
       have HB := Lib.hid (l1.trans ((below_alloc w1 (bobj (BK.ofC c))).mono (by omega)));
       clear h1 l1 c0 c1 c2 c3 c4 c5 c6 c7 c8 c9 c11 c12 c13 c14))
  go_ret
  subst hg
  exact ⟨w.heap.size + 1, rfl, by omega, by rw [← s1]; exact HO.out, HB.out⟩

theorem state_nil (w : World) : Calls Try.prog 14 #[.pointer none] w fun r w' => r = .returned (.int .i64 0) ∧ w' = w := by
  go_enter Try.func14, Try.ntmps14
  go_wp2
  go_ret
  exact ⟨rfl, rfl⟩
theorem since_nil (w : World) : Calls Try.prog 15 #[.pointer none] w fun r w' => r = .returned (.int .u64 0) ∧ w' = w := by
  go_enter Try.func15, Try.ntmps15
  go_wp2
  go_ret
  exact ⟨rfl, rfl⟩
theorem ask_nil (now : Int) (w : World) : Calls Try.prog 19 #[.pointer none, .int .u64 now] w fun r w' => r = .returned (.int .i64 3) ∧ w' = w := by
  go_enter Try.func19, Try.ntmps19
  go_wp2
  go_ret
  exact ⟨rfl, rfl⟩
theorem trip_nil (now : Int) (w : World) : Calls Try.prog 18 #[.pointer none, .int .u64 now] w fun r w' => r = .returned (.bool false) ∧ w' = w := by
  go_enter Try.func18, Try.ntmps18
  go_wp2
  go_ret
  exact ⟨rfl, rfl⟩
theorem done_nil (now : Int) (ok : Bool) (w : World) : Calls Try.prog 20 #[.pointer none, .int .u64 now, .bool ok] w fun r w' => r = .returned (.bool false) ∧ w' = w := by
  go_enter Try.func20, Try.ntmps20
  go_wp2
  go_ret
  exact ⟨rfl, rfl⟩
theorem back_nil (w : World) : Calls Try.prog 21 #[.pointer none] w fun r w' => r = .returned (.bool false) ∧ w' = w := by
  go_enter Try.func21, Try.ntmps21
  go_wp2
  go_ret
  exact ⟨rfl, rfl⟩
theorem state_brk (b : Nat) (x : BK) (w : World) (h : Brk w b x) : Calls Try.prog 14 #[.pointer (some ⟨b, 0, none⟩)] w fun r w' => r = .returned (.int .i64 x.state) ∧ w' = w := by
  obtain ⟨c0, c1, c2, c3⟩ := h.cells
  go_enter Try.func14, Try.ntmps14
  go_wp2
  go_ret
  exact ⟨rfl, rfl⟩
theorem since_brk (b : Nat) (x : BK) (w : World) (h : Brk w b x) : Calls Try.prog 15 #[.pointer (some ⟨b, 0, none⟩)] w fun r w' => r = .returned (.int .u64 x.since) ∧ w' = w := by
  obtain ⟨c0, c1, c2, c3⟩ := h.cells
  go_enter Try.func15, Try.ntmps15
  go_wp2
  go_ret
  exact ⟨rfl, rfl⟩
theorem open_brk (b : Nat) (now : Int) (x : BK) (w : World) (h : Brk w b x) :
    Calls Try.prog 26 #[.pointer (some ⟨b, 0, none⟩), .int .u64 now] w fun r w' => r = .returned (.tuple #[]) ∧ Brk w' b { x with state := 2, since := now } ∧ Frm (· = b) w w' := by
  obtain ⟨c0, c1, c2, c3⟩ := h.cells
  have z2 : w.frozen? ⟨b, 2, none⟩ = false := frozen_of h 2
  have z3 : w.frozen? ⟨b, 3, none⟩ = false := frozen_of h 3
  have HB := Lib.hid ((h.state 2).since now)
  have HF := Lib.hid (((Frm.refl (· = b) w).set (p := ⟨b, 2, none⟩) rfl (.int .i64 2)).set (p := ⟨b, 3, none⟩) rfl (.int .u64 now))
  clear h
  go_enter Try.func26, Try.ntmps26
  go_wp2
  refine bodyPost_end (results_none rfl _ _ _) rfl ?_
  exact ⟨rfl, HB.out, HF.out⟩
end Go.Proofs.Ytnggcegoomhneaa
