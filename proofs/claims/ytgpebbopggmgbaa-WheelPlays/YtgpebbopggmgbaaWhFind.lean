/- A wheel whole; contracts of find, list, place. -/
import Derived.Test.YtgpebbopggmgbaaWhMap
namespace Go.Proofs.Ytgpebbopggmgbaa
set_option linter.unusedVariables false
open Go.ChangeShapes Go.WideShapes Go.ChangeAt Go.RowKit

/-- In block b a wheel, its map in block m: what time it is, and its timers in the turn in which they come. -/
structure Whl (w : World) (b m : Nat) (now : Int) (L : List Ent) : Prop where
  ex : ∃ ls, Mem w b m now ls ∧ Inv now L ls
  map : MapL w m L
/-- The blocks that a wheel lies in. -/
def Foot (b m : Nat) (L : List Ent) (j : Nat) : Prop := j = b ∨ j = m ∨ ∃ e ∈ L, e.g = j
section
variable {w : World} {b m : Nat} {now : Int} {L : List Ent}

theorem Whl.ent (h : Whl w b m now L) {e : Ent} (he : e ∈ L) : ∃ q n, EntAt w e q n := by
  obtain ⟨ls, hm, hi⟩ := h.ex
  exact hm.ent (ix_lt _ _) ((hi.mem (ix_lt _ _)).2 ⟨he, rfl⟩)
theorem Whl.cell0 (h : Whl w b m now L) : w.cell? ⟨b, 0, none⟩ = some (.int .u64 now) := by
  obtain ⟨ls, hm, hi⟩ := h.ex
  obtain ⟨cs, _, _, h0, _⟩ := hm.cells
  exact h0
theorem Whl.cell1 (h : Whl w b m now L) : w.cell? ⟨b, 1, none⟩ = some (.map (some m)) := by
  obtain ⟨ls, hm, hi⟩ := h.ex
  obtain ⟨cs, _, _, _, h1, _⟩ := hm.cells
  exact h1
theorem Whl.now0 (h : Whl w b m now L) : 0 ≤ now ∧ now ≤ 18446744073709551615 := by
  obtain ⟨ls, hm, hi⟩ := h.ex
  exact ⟨hi.now0, hi.now1⟩
theorem Whl.due (h : Whl w b m now L) : ∀ e ∈ L, now ≤ e.d ∧ e.d ≤ 18446744073709551615 := by
  obtain ⟨ls, hm, hi⟩ := h.ex
  exact hi.due
theorem Whl.wf (h : Whl w b m now L) : ∀ e ∈ L, wf64 e.k ∧ wf64 e.i := by
  obtain ⟨ls, hm, hi⟩ := h.ex
  exact fun e he => ⟨⟨(hi.wf e he).1, (hi.wf e he).2.1⟩, ⟨(hi.wf e he).2.2.1, (hi.wf e he).2.2.2⟩⟩
theorem Whl.sorted (h : Whl w b m now L) : L.Pairwise (fun a b => a.d ≤ b.d) := by
  obtain ⟨ls, hm, hi⟩ := h.ex
  exact hi.sorted
theorem Whl.apart (h : Whl w b m now L) : L.Pairwise (fun a b => a.g ≠ b.g) := by
  obtain ⟨ls, hm, hi⟩ := h.ex
  exact hi.apart
theorem Whl.keys (h : Whl w b m now L) : L.Pairwise (fun a b => ¬ (a.k = b.k ∧ a.i = b.i)) := by
  obtain ⟨ls, hm, hi⟩ := h.ex
  exact hi.keys
theorem Whl.foot_lt (h : Whl w b m now L) {j : Nat} (hj : Foot b m L j) : j < w.heap.size := by
  rcases hj with rfl | rfl | ⟨e, he, rfl⟩
  · obtain ⟨ls, hm, hi⟩ := h.ex
    obtain ⟨cs, hb, _⟩ := hm.blk
    exact heap_lt hb
  · exact h.map.lt
  · obtain ⟨q, n, h⟩ := h.ent he
    exact h.lt
theorem Whl.keep {w' : World} (h : Whl w b m now L) (hk : ∀ j, Foot b m L j → w'.heap[j]? = w.heap[j]?) : Whl w' b m now L := by
  obtain ⟨ls, hm, hi⟩ := h.ex
  refine ⟨⟨ls, hm.keep (hk b (.inl rfl)) (fun i hi' x hx => hk x.g (.inr (.inr ⟨x, ((hi.mem hi').1 hx).1, rfl⟩))), hi⟩, h.map.keep (hk m (.inr (.inl rfl)))⟩
theorem Whl.frm {w' : World} {F : Nat → Prop} (h : Whl w b m now L) (hf : Frm F w w') (hF : ∀ j, Foot b m L j → ¬ F j) : Whl w' b m now L :=
  h.keep fun j hj => hf.block j (h.foot_lt hj) (hF j hj)
theorem Whl.ali {w' : World} (h : Whl w b m now L) (k : Ali w w') : Whl w' b m now L := h.keep fun j _ => by rw [k.heap]
theorem Whl.below {w' : World} (h : Whl w b m now L) (k : Below w.heap.size w w') : Whl w' b m now L := h.keep fun j hj => k.block j (h.foot_lt hj)
/-- No block of a wheel is one of another kind. -/
theorem Whl.not_foot (h : Whl w b m now L) {j : Nat} {cs : Array Value} {t : TypeId} {f : Nat × Nat} (hj : w.heap[j]? = some (.cells cs t f)) (h1 : t ≠ 64) (h2 : t ≠ 72) : ¬ Foot b m L j := by
  rintro (rfl | rfl | ⟨e, he, rfl⟩)
  · obtain ⟨ls, hm, hi⟩ := h.ex
    obtain ⟨cs', hb, _⟩ := hm.blk
    rw [hb] at hj
    injection hj with hj
    injection hj with _ hj
    exact h1 hj.symm
  · obtain ⟨es, c, hm⟩ := h.map.obj
    rw [hm] at hj
    cases hj
  · obtain ⟨q, n, he'⟩ := h.ent he
    unfold EntAt at he'
    rw [he'] at hj
    injection hj with hj
    injection hj with _ hj
    exact h2 hj.symm
end

theorem below_alloc (w : World) (o : Obj) : Below w.heap.size w (w.alloc o) := (Below.refl _ _).alloc (Nat.le_refl _) o
theorem below_drewN {B : Nat} {a w : World} (h : Below B a w) (n : Nat) : Below B a (w.drewN n) := ⟨h.os, h.tape, h.output, h.size, h.block⟩

set_option maxHeartbeats 400000 in
theorem find_any (b m : Nat) (now k i : Int) (L : List Ent) (w : World) (h : Whl w b m now L) (hk : wf64 k) (hi : wf64 i) :
    Calls Try.prog 26 #[.pointer (some ⟨b, 0, none⟩), .agg #[.int .i64 k, .int .i64 i]] w fun r w' => Below w.heap.size w w' ∧
      ∃ q : Option Ent, r = .returned (ptr q) ∧ (match q with | none => ∀ e ∈ L, ¬ (e.k = k ∧ e.i = i) | some e => e ∈ L ∧ e.k = k ∧ e.i = i) := by
  obtain ⟨q, hq, hlook⟩ := h.map.look hk hi
  have hc1 : ∀ o : Obj, (w.alloc o).cell? ⟨b, 1, none⟩ = some (.map (some m)) := fun o => by
    rw [World.cell?_of_block (w := w) (heap_alloc_lt (h.foot_lt (.inl rfl)))]; exact h.cell1
  have hl : ∀ (o : Obj) (n : Nat), (Instr.lookup 57 (.map (some m)) (.agg #[.int .i64 k, .int .i64 i]) false).run Try.prog ((w.alloc o).drewN n) = .ok (ptr q) ((w.alloc o).drewN n) :=
    fun o n => hlook _ (heap_alloc_lt h.map.lt)
  have Q := Lib.hid hq
  clear hq hlook h
  go_enter Try.func26, Try.ntmps26
  go_wp2
  go_quiet (fail)
  go_wp2
  go_ret
  exact ⟨below_drewN (below_alloc _ _) _, q, rfl, Q.out⟩

theorem find_nil (v : Value) (k i : Int) (w : World) :
    Calls Try.prog 26 #[.pointer none, .agg #[.int .i64 k, .int .i64 i]] w fun r w' => Below w.heap.size w w' ∧ r = .returned (.pointer none) := by
  go_enter Try.func26, Try.ntmps26
  go_wp2
  go_ret
  exact ⟨below_alloc _ _, rfl⟩

theorem list_far (b : Nat) (l t : Int) (w : World) (hl : 4 ≤ l) :
    Calls Try.prog 37 #[.pointer (some ⟨b, 0, none⟩), .int .i64 l, .int .u64 t] w fun r w' => r = .returned (.pointer (some ⟨b, 2 + 2 * ixl l t, none⟩)) ∧ Ali w w' := by
  have e : ixl l t = 256 := by unfold ixl; rw [if_pos hl]
  rw [e]
  go_enter Try.func37, Try.ntmps37
  go_wp2
  go_ret
  exact ⟨rfl, Ali.refl _⟩

set_option maxHeartbeats 400000 in
theorem list_near (b : Nat) (l t : Int) (w : World) (h0 : 0 ≤ l) (hl : l < 4) (ht : 0 ≤ t) (ht' : t ≤ 18446744073709551615) :
    Calls Try.prog 37 #[.pointer (some ⟨b, 0, none⟩), .int .i64 l, .int .u64 t] w fun r w' => r = .returned (.pointer (some ⟨b, 2 + 2 * ixl l t, none⟩)) ∧ Ali w w' := by
  have hn := Lib.hid (ixl_near h0 hl t)
  have hs := slS_bd t l
  unfold slS at hs
  generalize ixl l t = j at hn ⊢
  have hlt : ¬ 4 ≤ l := by omega
  go_enter Try.func37, Try.ntmps37
  go_wp2
  go_quiet (first | (go_at_call 39; exact (slot_any _ _ _ ht ht' (by omega) (by omega)).mono (fun _ _ h => ⟨h.1, _, h.2.symm⟩)))
  go_wp2
  go_ret
  refine ⟨?_, rfl, rfl, rfl, rfl⟩
  have := hn.out
  unfold slS at this
  have e : 2 + l.toNat * 128 + (blkS t l % 64).toNat * 2 = 2 + 2 * j := by omega
  show Ending.returned (.pointer (some ⟨b, 2 + l.toNat * 128 + (blkS t l % 64).toNat * 2, none⟩)) = _
  rw [e]

theorem list_any (b : Nat) (l t : Int) (w : World) (h0 : 0 ≤ l) (ht : 0 ≤ t) (ht' : t ≤ 18446744073709551615) :
    Calls Try.prog 37 #[.pointer (some ⟨b, 0, none⟩), .int .i64 l, .int .u64 t] w fun r w' => r = .returned (.pointer (some ⟨b, 2 + 2 * ixl l t, none⟩)) ∧ Ali w w' := by
  by_cases hl : 4 ≤ l
  · exact list_far b l t w hl
  · exact list_near b l t w h0 (by omega) ht ht'

theorem place_any (b : Nat) (now t : Int) (w : World) (c0 : w.cell? ⟨b, 0, none⟩ = some (.int .u64 now)) (hn : 0 ≤ now) (hn' : now ≤ 18446744073709551615) (ht : 0 ≤ t) (ht' : t ≤ 18446744073709551615) :
    Calls Try.prog 32 #[.pointer (some ⟨b, 0, none⟩), .int .u64 t] w fun r w' => r = .returned (.pointer (some ⟨b, 2 + 2 * ix now t, none⟩)) ∧ Ali w w' := by
  have hlv := levS_bd now t
  unfold ix
  go_enter Try.func32, Try.ntmps32
  go_wp2_with fail
  refine (level_any _ _ _ hn hn' ht ht').mono ?_
  rintro e w' ⟨rfl, rfl⟩
  go_wp2_with fail
  refine (list_any _ _ _ _ hlv.1 ht ht').mono ?_
  rintro e w' ⟨rfl, ha⟩
  go_wp2
  go_ret
  exact ⟨rfl, ha⟩

end Go.Proofs.Ytgpebbopggmgbaa
