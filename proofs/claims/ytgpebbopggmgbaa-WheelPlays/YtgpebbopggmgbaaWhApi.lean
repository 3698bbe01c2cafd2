/- Contracts of package wheel's calls. -/
import Derived.Test.YtgpebbopggmgbaaWhTurn
namespace Go.Proofs.Ytgpebbopggmgbaa
set_option linter.unusedVariables false
open Go.ChangeShapes Go.WideShapes Go.ChangeAt Go.RowKit

theorem wheelCells_heads (now : Int) (m : Nat) : Heads (wheelCells now m) now m (fun _ => []) := by
  unfold wheelCells
  refine ⟨by simp only [List.size_toArray, List.length_cons, List.length_replicate], by simp only [List.getElem?_toArray, List.getElem?_cons_zero], by rw [List.getElem?_toArray]; exact List.getElem?_cons_succ.trans List.getElem?_cons_zero, fun i hi => ?_⟩
  constructor
  · rw [show 2 + 2 * i = (2 * i) + 1 + 1 by omega]
    simp only [List.getElem?_toArray, List.getElem?_cons_succ, List.getElem?_replicate]
    rw [if_pos (by omega)]; rfl
  · rw [show 2 + 2 * i + 1 = (2 * i + 1) + 1 + 1 by omega]
    simp only [List.getElem?_toArray, List.getElem?_cons_succ, List.getElem?_replicate]
    rw [if_pos (by omega)]; rfl

theorem new_whl (now : Int) (w : World) (h0 : 0 ≤ now) (h1 : now ≤ 18446744073709551615) :
    Calls Try.prog 10 #[.int .u64 now] w fun r w' => ∃ b m, r = .returned (.pointer (some ⟨b, 0, none⟩)) ∧ Whl w' b m now [] ∧ Below w.heap.size w w' ∧ w.heap.size ≤ b ∧ w.heap.size ≤ m := by
  refine (new_any now w).mono ?_
  rintro r w' ⟨rfl, rfl⟩
  refine ⟨_, w.heap.size, rfl, ⟨⟨fun _ => [], ⟨⟨wheelCells now w.heap.size, ?_, wheelCells_heads _ _⟩, fun i hi => trivial⟩, inv_new h0 h1⟩, ?_⟩, ?_, by omega, Nat.le_refl _⟩
  · have := heap_alloc_at (w.alloc (.map #[] 0)) (.cells (wheelCells now w.heap.size) 64)
    simpa using this
  · exact (mapL_new w).keep (heap_alloc_lt (by simp))
  · exact ((Below.refl _ _).alloc (Nat.le_refl _) _).alloc (by simp) _

theorem now_whl (b m : Nat) (now : Int) (L : List Ent) (w : World) (h : Whl w b m now L) :
    Calls Try.prog 17 #[.pointer (some ⟨b, 0, none⟩)] w fun r w' => r = .returned (.int .u64 now) ∧ w = w' := by
  have c0 := h.cell0
  clear h
  go_enter Try.func17, Try.ntmps17
  go_wp2
  go_ret
  exact ⟨rfl, rfl⟩
theorem now_nil (w : World) : Calls Try.prog 17 #[.pointer none] w fun r w' => r = .returned (.int .u64 0) ∧ w = w' := by
  go_enter Try.func17, Try.ntmps17
  go_wp2
  go_ret
  exact ⟨rfl, rfl⟩

theorem len_whl (b m : Nat) (now : Int) (L : List Ent) (w : World) (h : Whl w b m now L) :
    Calls Try.prog 18 #[.pointer (some ⟨b, 0, none⟩)] w fun r w' => r = .returned (.int .i64 L.length) ∧ w = w' := by
  have c1 := h.cell1
  obtain ⟨D, hown, hsz, _⟩ := h.map.ex
  have hs : Maps.size D = L.length := hsz
  clear h hsz
  go_enter Try.func18, Try.ntmps18
  go_wp2_with (first | (at_len; refine wpList_len_own _ rfl _ 57 rfl 25 58 timer_type _ m L.length D rfl hown ?_) | go_in)
  go_ret
  exact ⟨by rw [← hs]; rfl, rfl⟩
theorem len_nil (w : World) : Calls Try.prog 18 #[.pointer none] w fun r w' => r = .returned (.int .i64 0) ∧ w = w' := by
  go_enter Try.func18, Try.ntmps18
  go_wp2
  go_ret
  exact ⟨rfl, rfl⟩

/-- What Next tells. -/
def nextV (L : List Ent) : Value := match L with | [] => .tuple #[.int .u64 0, .bool false] | e :: _ => .tuple #[.int .u64 e.d, .bool true]
theorem next_whl (b m : Nat) (now : Int) (L : List Ent) (w : World) (h : Whl w b m now L) :
    Calls Try.prog 19 #[.pointer (some ⟨b, 0, none⟩)] w fun r w' => r = .returned (nextV L) ∧ Ali w w' := by
  have hf := first_any b m now 4 L w h (by omega) (by omega)
  rw [upTo_all] at hf
  cases L with
  | nil =>
    rw [show ptr ([] : List Ent).head? = .pointer none from rfl] at hf
    clear h
    go_enter Try.func19, Try.ntmps19
    go_wp2_with fail
    refine hf.mono ?_
    clear hf
    rintro r w' ⟨rfl, ha⟩
    go_wp2
    go_ret2
    exact ⟨rfl, ha⟩
  | cons e l =>
    rw [show ptr (e :: l).head? = .pointer (some ⟨e.g, 0, none⟩) from rfl] at hf
    obtain ⟨q, n, hent⟩ := h.ent (e := e) (by simp)
    clear h
    go_enter Try.func19, Try.ntmps19
    go_wp2_with fail
    refine hf.mono ?_
    clear hf
    rintro r w' ⟨rfl, ha⟩
    obtain ⟨_, _, e2, _⟩ := (hent.ali ha).cells
    have HA := Lib.hid ha
    clear hent ha
    go_wp2
    go_ret2
    exact ⟨rfl, HA.out⟩
theorem next_nil (w : World) : Calls Try.prog 19 #[.pointer none] w fun r w' => r = .returned (.tuple #[.int .u64 0, .bool false]) ∧ w = w' := by
  go_enter Try.func19, Try.ntmps19
  go_wp2
  go_ret2
  exact ⟨rfl, rfl⟩

theorem due_whl (b m : Nat) (now k i : Int) (L : List Ent) (w : World) (h : Whl w b m now L) (hk : wf64 k) (hi : wf64 i) :
    Calls Try.prog 12 #[.pointer (some ⟨b, 0, none⟩), .agg #[.int .i64 k, .int .i64 i]] w fun r w' => Below w.heap.size w w' ∧
      ((∃ e ∈ L, e.k = k ∧ e.i = i ∧ r = .returned (.tuple #[.int .u64 e.d, .bool true])) ∨ ((∀ e ∈ L, ¬ (e.k = k ∧ e.i = i)) ∧ r = .returned (.tuple #[.int .u64 0, .bool false]))) := by
  have hb0 := below_alloc w (.cells #[.int .i64 k, .int .i64 i] 25)
  have hw := h.below hb0
  have hf := find_any b m now k i L _ hw hk hi
  have HW := Lib.hid hw
  have HB0 := Lib.hid hb0
  clear hw hb0 h
  go_enter Try.func12, Try.ntmps12
  go_wp2_with fail
  refine hf.mono ?_
  clear hf
  rintro r w1 ⟨hb1, q, rfl, hq⟩
  have hw1 := HW.out.below hb1
  have HB : Below w.heap.size w w1 := HB0.out.trans (hb1.mono (by simp))
  have HBH := Lib.hid HB
  have HQ := Lib.hid hq
  clear hb1 HB hq
  cases q with
  | none =>
    clear hw1
    rw [ptr_none]
    go_wp2
    go_ret2
    exact ⟨HBH.out, .inr ⟨HQ.out, rfl⟩⟩
  | some e =>
    obtain ⟨q, n, hent⟩ := hw1.ent HQ.out.1
    obtain ⟨_, _, e2, _⟩ := hent.cells
    clear hw1 hent
    rw [ptr_some]
    go_wp2
    go_ret2
    exact ⟨HBH.out, .inl ⟨e, HQ.out.1, HQ.out.2.1, HQ.out.2.2, rfl⟩⟩
theorem due_nil (k i : Int) (w : World) :
    Calls Try.prog 12 #[.pointer none, .agg #[.int .i64 k, .int .i64 i]] w fun r w' => Below w.heap.size w w' ∧ r = .returned (.tuple #[.int .u64 0, .bool false]) := by
  have hb0 := Lib.hid (below_alloc w (.cells #[.int .i64 k, .int .i64 i] 25))
  have hf := find_nil undef k i (w.alloc (.cells #[.int .i64 k, .int .i64 i] 25))
  go_enter Try.func12, Try.ntmps12
  go_wp2_with fail
  refine hf.mono ?_
  clear hf
  rintro r w1 ⟨hb1, rfl⟩
  have HB := Lib.hid (hb0.out.trans (hb1.mono (by simp)))
  clear hb1
  go_wp2
  go_ret2
  exact ⟨HB.out, rfl⟩

theorem cancel_whl (b m : Nat) (now k i : Int) (L : List Ent) (w : World) (h : Whl w b m now L) (hk : wf64 k) (hi : wf64 i) :
    Calls Try.prog 22 #[.pointer (some ⟨b, 0, none⟩), .agg #[.int .i64 k, .int .i64 i]] w fun r w' => Frm (Foot b m L) w w' ∧
      ((∃ e ∈ L, e.k = k ∧ e.i = i ∧ r = .returned (.bool true) ∧ Whl w' b m now (del e.g L)) ∨ ((∀ e ∈ L, ¬ (e.k = k ∧ e.i = i)) ∧ r = .returned (.bool false) ∧ Whl w' b m now L)) := by
  have hb0 := below_alloc w (.cells #[.int .i64 k, .int .i64 i] 25)
  have hw := h.below hb0
  have hf := find_any b m now k i L _ hw hk hi
  have HW := Lib.hid hw
  have HB0 := Lib.hid hb0
  clear hw hb0 h
  go_enter Try.func22, Try.ntmps22
  go_wp2_with fail
  refine hf.mono ?_
  clear hf
  rintro r w1 ⟨hb1, q, rfl, hq⟩
  have hw1 := HW.out.below hb1
  have HB : Below w.heap.size w w1 := HB0.out.trans (hb1.mono (by simp))
  have HBH := Lib.hid HB
  have HQ := Lib.hid hq
  have HW1 := Lib.hid hw1
  clear hb1 HB hq hw1
  cases q with
  | none =>
    rw [ptr_none]
    go_wp2
    go_ret
    exact ⟨.of_below HBH.out, .inr ⟨HQ.out, rfl, HW1.out⟩⟩
  | some e =>
    have hd := drop_any b m now L w1 HW1.out e HQ.out.1
    rw [ptr_some]
    go_wp2_with fail
    refine hd.mono ?_
    clear hd
    rintro r w2 ⟨rfl, hw2, _, hf2⟩
    have H2 := Lib.hid hw2
    have F2 := Lib.hid hf2
    clear hw2 hf2
    go_wp2
    go_ret
    exact ⟨(Frm.of_below (F := Foot b m L) HBH.out).trans F2.out (fun _ _ h => h), .inl ⟨e, HQ.out.1, HQ.out.2.1, HQ.out.2.2, rfl, H2.out⟩⟩
theorem cancel_nil (k i : Int) (w : World) :
    Calls Try.prog 22 #[.pointer none, .agg #[.int .i64 k, .int .i64 i]] w fun r w' => Below w.heap.size w w' ∧ r = .returned (.bool false) := by
  have hb0 := Lib.hid (below_alloc w (.cells #[.int .i64 k, .int .i64 i] 25))
  have hf := find_nil undef k i (w.alloc (.cells #[.int .i64 k, .int .i64 i] 25))
  go_enter Try.func22, Try.ntmps22
  go_wp2_with fail
  refine hf.mono ?_
  clear hf
  rintro r w1 ⟨hb1, rfl⟩
  have HB := Lib.hid (hb0.out.trans (hb1.mono (by simp)))
  clear hb1
  go_wp2
  go_ret
  exact ⟨HB.out, rfl⟩

end Go.Proofs.Ytgpebbopggmgbaa
