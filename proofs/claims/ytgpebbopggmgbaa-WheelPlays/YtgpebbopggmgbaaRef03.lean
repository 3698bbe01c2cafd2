/- Contracts of porpoiseref03: a timer's place. -/
import Derived.Test.YtgpebbopggmgbaaTwo03
import Derived.Maps.AppendAt
namespace Go.Proofs.Ytgpebbopggmgbaa
set_option linter.unusedVariables false
open Go.ChangeShapes Go.WideShapes Go.ChangeAt Go.RowKit

theorem diffK (k i k' i' : Int) (hk : wf64 k) (hi : wf64 i) (hk' : wf64 k') (hi' : wf64 i') (hne : ¬ (k = k' ∧ i = i')) (w : World) : (Op.equalIn 10000 25 (.agg #[.int .i64 k, .int .i64 i]) (.agg #[.int .i64 k', .int .i64 i'])).run Try.prog w = .ok false w :=
  same_no (P := Try.prog) (t := 25) 8 (by decide) (by kernel_rfl) (by kernel_rfl) (by kernel_rfl) (by kernel_rfl) (xs := #[.int .i64 k, .int .i64 i]) (ys := #[.int .i64 k', .int .i64 i']) (by simpa using timer_flat hk hi) (by simpa using timer_flat hk' hi') (by simpa using hne) w

/-! ### a slice of timers, each three cells -/
def c3 (e : Ent) : List Value := [.int .i64 e.k, .int .i64 e.i, .int .u64 e.d]
def f3 : List Ent → List Value
  | [] => []
  | e :: es => c3 e ++ f3 es
theorem f3_length : ∀ V, (f3 V).length = V.length * 3
  | [] => rfl
  | e :: es => by rw [f3, List.length_append, f3_length es, List.length_cons]; simp [c3]; omega
theorem f3_append : ∀ a b, f3 (a ++ b) = f3 a ++ f3 b
  | [], b => rfl
  | e :: es, b => by rw [List.cons_append, f3, f3, f3_append es b, List.append_assoc]
theorem f3_at : ∀ {V : List Ent} {j : Nat} {e : Ent}, V[j]? = some e → (f3 V)[j * 3]? = some (.int .i64 e.k) ∧ (f3 V)[j * 3 + 1]? = some (.int .i64 e.i) ∧ (f3 V)[j * 3 + 2]? = some (.int .u64 e.d)
  | x :: xs, 0, e, h => by
    obtain rfl : x = e := by simpa using h
    exact ⟨rfl, rfl, rfl⟩
  | x :: xs, j + 1, e, h => by
    have h' : xs[j]? = some e := by simpa using h
    have ih := f3_at h'
    have hc : (c3 x).length = 3 := rfl
    rw [f3]
    refine ⟨?_, ?_, ?_⟩
    · rw [List.getElem?_append_right (by omega), hc, show (j + 1) * 3 - 3 = j * 3 by omega]; exact ih.1
    · rw [List.getElem?_append_right (by omega), hc, show (j + 1) * 3 + 1 - 3 = j * 3 + 1 by omega]; exact ih.2.1
    · rw [List.getElem?_append_right (by omega), hc, show (j + 1) * 3 + 2 - 3 = j * 3 + 2 by omega]; exact ih.2.2
theorem f3_one : ∀ V, ∀ u ∈ f3 V, u.oneCell' = true
  | e :: es, u, h => by
    rw [f3] at h
    rcases List.mem_append.1 h with h | h
    · simp [c3] at h
      rcases h with rfl | rfl | rfl <;> rfl
    · exact f3_one es u h

/-- A slice that reads as the timers V. -/
def RowE (w : World) (A : Option Addr) (len : Nat) (V : List Ent) : Prop :=
  V.length = len ∧ (len = 0 ∨ ∃ blk off cs fz, A = some ⟨blk, off, none⟩ ∧ w.heap[blk]? = some (.cells cs 75 fz) ∧ ∀ j u, (f3 V)[j]? = some u → cs[off + j]? = some u)
section
variable {w w' : World} {A : Option Addr} {len : Nat} {V : List Ent}
/-- Rows of timers stay as they are. -/
def Kept (w w' : World) : Prop := ∀ (j : Nat) (cs : Array Value) (fz : Nat × Nat), w.heap[j]? = some (.cells cs 75 fz) → w'.heap[j]? = some (.cells cs 75 fz)
theorem RowE.keep (h : RowE w A len V) (hk : Kept w w') : RowE w' A len V := by
  refine ⟨h.1, ?_⟩
  rcases h.2 with h0 | ⟨blk, off, cs, fz, hA, hb, hc⟩
  · exact .inl h0
  · exact .inr ⟨blk, off, cs, fz, hA, hk _ _ _ hb, hc⟩
theorem kept_below (hb : Below w.heap.size w w') : Kept w w' := fun j cs fz h => (hb.block j (heap_lt h)).trans h
theorem kept_whl {b m : Nat} {now : Int} {L : List Ent} (h : Whl w b m now L) (hf : Frm (Foot b m L) w w') : Kept w w' := fun j cs fz hj => h.other hf hj (by decide) (by decide)
theorem RowE.below (h : RowE w A len V) (hb : Below w.heap.size w w') : RowE w' A len V := h.keep (kept_below hb)
theorem RowE.ali (h : RowE w A len V) (ha : Ali w w') : RowE w' A len V := h.keep (fun j cs fz hj => by rw [ha.heap]; exact hj)
theorem RowE.at_ (h : RowE w A len V) {i : Nat} (hi : i < len) : ∃ blk off e, A = some ⟨blk, off, none⟩ ∧ V[i]? = some e ∧ w.cell? ⟨blk, off + i * 3, none⟩ = some (.int .i64 e.k) ∧ w.cell? ⟨blk, off + i * 3 + 1, none⟩ = some (.int .i64 e.i) ∧ w.cell? ⟨blk, off + i * 3 + 2, none⟩ = some (.int .u64 e.d) := by
  rcases h.2 with h0 | ⟨blk, off, cs, fz, hA, hb, hc⟩
  · omega
  · have hl := h.1
    have hV : V[i]? = some (V[i]'(by omega)) := List.getElem?_eq_getElem (by omega)
    obtain ⟨h1, h2, h3⟩ := f3_at hV
    refine ⟨blk, off, _, hA, hV, ?_, ?_, ?_⟩
    · rw [cell_of hb]; exact hc _ _ h1
    · rw [cell_of hb, Nat.add_assoc]; exact hc _ _ h2
    · rw [cell_of hb, Nat.add_assoc]; exact hc _ _ h3
end

/-- What 'at' tells. -/
def AtS (V : List Ent) (k i : Int) (r : Int) : Prop :=
  (r = -1 ∧ ∀ e ∈ V, ¬ (e.k = k ∧ e.i = i)) ∨ ∃ (l1 : List Ent) (e : Ent) (l2 : List Ent), V = l1 ++ e :: l2 ∧ e.k = k ∧ e.i = i ∧ (∀ x ∈ l1, ¬ (x.k = k ∧ x.i = i)) ∧ r = l1.length

theorem below_ali {B : Nat} {a w w' : World} (h : Below B a w) (k : Ali w w') : Below B a w' := ⟨k.os.trans h.os, k.tape.trans h.tape, k.output.trans h.output, by rw [k.heap]; exact h.size, fun j hj => by rw [k.heap]; exact h.block j hj⟩

set_option maxHeartbeats 1000000 in
theorem at_any (A : Option Addr) (len cap : Nat) (nw k i : Int) (V : List Ent) (w : World) (hr : RowE w A len V) (hlen : len ≤ 1099511627776) (hwf : ∀ e ∈ V, wf64 e.k ∧ wf64 e.i) (hk : wf64 k) (hi : wf64 i) :
    Calls Try.prog 27 #[.agg #[.int .u64 nw, .slice A len cap], .agg #[.int .i64 k, .int .i64 i]] w fun r w' => Below w.heap.size w w' ∧ ∃ n, r = .returned (.int .i64 n) ∧ AtS V k i n := by
  have hb2 : Below w.heap.size w ((w.alloc (.cells #[.int .u64 nw, .slice A len cap] 31)).alloc (tobj k i)) := ((Below.refl _ _).alloc (Nat.le_refl _) _).alloc (by simp) _
  have hr2 := hr.below hb2
  have hB2 := Lib.hid hb2
  have hR2 := Lib.hid hr2
  have hWF := Lib.hid hwf
  have hVl := hr.1
  have hx : ((w.alloc (.cells #[.int .u64 nw, .slice A len cap] 31)).alloc (tobj k i)).cell? ⟨w.heap.size, 1, none⟩ = some (.slice A len cap) := by
    rw [World.cell?_of_block (w := w.alloc _) (heap_alloc_lt (by simp)), cell_of (heap_alloc_at w _)]; rfl
  have hy := cells2 (heap_alloc_at (w.alloc (.cells #[.int .u64 nw, .slice A len cap] 31)) (tobj k i))
  rw [show (w.alloc (.cells #[.int .u64 nw, .slice A len cap] 31)).heap.size = w.heap.size + 1 by simp] at hy
  obtain ⟨hy0, hy1⟩ := hy
  generalize hW : (w.alloc (.cells #[.int .u64 nw, .slice A len cap] 31)).alloc (tobj k i) = w2 at *
  clear hb2 hr2 hr hwf
  go_enter Try.func27, Try.ntmps27
  go_wp2
  go_loopg [5] len (fun g v wr => ∃ j : Nat, j + g = len ∧ v = .int .i64 j ∧ (∀ x ∈ V.take j, ¬ (x.k = k ∧ x.i = i)) ∧ Ali w2 wr)
  case atStart => exact ⟨0, by omega, rfl, by simp, Ali.refl _⟩
  case round =>
    obtain ⟨j, hj, rfl, hno, ha⟩ := hrel
    have hx' : wr.cell? ⟨w.heap.size, 1, none⟩ = some (.slice A len cap) := (World.cell?_of_block (w := w2) (by rw [ha.heap])).trans hx
    have hy0' : wr.cell? ⟨w.heap.size + 1, 0, none⟩ = some (.int .i64 k) := (World.cell?_of_block (w := w2) (by rw [ha.heap])).trans hy0
    have hy1' : wr.cell? ⟨w.heap.size + 1, 1, none⟩ = some (.int .i64 i) := (World.cell?_of_block (w := w2) (by rw [ha.heap])).trans hy1
    have NO := Lib.hid hno
    have HA := Lib.hid ha
    have HJ := Lib.hid hj
    clear hW hno hx hy0 hy1
    by_cases hjl : j < len
    · have hjl' : (j : Int) < len := by omega
      obtain ⟨blk, off, e, hA, hV, q0, q1, _⟩ := (hR2.out.ali ha).at_ hjl
      subst hA
      have hem : e ∈ V := List.mem_of_getElem? hV
      have hwe := hWF.out e hem
      clear ha hj
      by_cases hkey : e.k = k ∧ e.i = i
      · obtain ⟨rfl, rfl⟩ := hkey
        have hsame := sameT e.k e.i hwe.1 hwe.2
        have HV := Lib.hid hV
        clear hV
        go_wp2
        go_quiet (fail)
        go_wp2
        go_ret
        refine ⟨below_drewN (below_ali hB2.out HA.out) _, _, rfl, .inr ⟨V.take j, e, V.drop (j + 1), ?_, rfl, rfl, NO.out, ?_⟩⟩
        · have hlt : j < V.length := (List.getElem?_eq_some_iff.1 HV.out).1
          have he : V[j] = e := (List.getElem?_eq_some_iff.1 HV.out).2
          rw [← he, ← List.drop_eq_getElem_cons hlt, List.take_append_drop]
        · rw [List.length_take]
          have hlt : j < V.length := (List.getElem?_eq_some_iff.1 HV.out).1
          omega
      · have hdiff := diffK e.k e.i k i hwe.1 hwe.2 hk hi hkey
        have HV := Lib.hid hV
        have HK := Lib.hid hkey
        clear hV hkey
        go_wp2
        go_quiet (fail)
        go_wp2
        go_roundg (len - (j + 1))
        case measure => have := HJ.out; omega
        case rel =>
          refine ⟨j + 1, by omega, by simp, fun x hx => ?_, HA.out.trans ⟨rfl, rfl, rfl, rfl⟩⟩
          have hlt : j < V.length := (List.getElem?_eq_some_iff.1 HV.out).1
          have he : V[j] = e := (List.getElem?_eq_some_iff.1 HV.out).2
          rw [List.take_succ_eq_append_getElem hlt] at hx
          rcases List.mem_append.1 hx with hx | hx
          · exact NO.out x hx
          · obtain rfl : x = V[j] := by simpa using hx
            rw [he]; exact HK.out
    · have hjl' : ¬ (j : Int) < len := by omega
      go_wp2
      go_ret
      refine ⟨below_ali hB2.out HA.out, _, rfl, .inl ⟨rfl, fun x hx => NO.out x ?_⟩⟩
      rw [List.take_of_length_le (by omega)]
      exact hx

end Go.Proofs.Ytgpebbopggmgbaa
