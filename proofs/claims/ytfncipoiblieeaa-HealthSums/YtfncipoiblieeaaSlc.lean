/- Parts of slices of records: 'x[k:]', 'x[:k]' as slices that read as a part of the list, wherever they point. No package's types. -/
import Derived.Test.YtfncipoiblieeaaRecs
namespace Go.Proofs.Ytfncipoiblieeaa
set_option linter.unusedVariables false
open Go.ChangeShapes Go.WideShapes Go.ChangeAt Go.RowKit

section
variable {α : Type} {R : Rec α} {w : World} {A : Option Addr} {n c k : Nat} {V : List α} {P : Program} {t e : TypeId} {kd : IntKind}
theorem run_slice_drop (ht : P.underlying t = some (.slice e)) (hs : ∀ w, (sizeOf e).run P w = .ok R.size w) (hr : RowR R w A n V) (hnc : n ≤ c) (hk : k ≤ n) :
    ∃ A', (∀ w', (Instr.sliceAt t (.slice A n c) (some (.int kd k)) none none).run P w' = .ok (.slice A' (n - k) (c - k)) w') ∧ RowR R w A' (n - k) (V.drop k) := by
  have e1 : ∀ w', (Instr.sliceAt t (.slice A n c) (some (.int kd k)) none none).run P w' = .ok (.slice (if c = k then A else A.map (·.add (k * R.size))) (n - k) (c - k)) w' := by
    intro w'
    simp [Instr.sliceAt, Instr.slice, Instr.sliceBounds, Instr.sliceBound, run_underlying ht, hs, asIntOf]
    omega
  refine ⟨_, e1, ?_⟩
  by_cases h0 : n = 0
  · have hl := hr.1
    have : V = [] := List.eq_nil_of_length_eq_zero (by omega)
    subst this
    have e2 : n - k = 0 := by omega
    rw [e2, List.drop_nil]
    exact RowR.nil _
  · rcases hr.2.2 with h | ⟨b, off, rfl, hlt, hc⟩
    · exact absurd h h0
    · have := RowR.drop (R := R) (U := V.take k) (V := V.drop k) (m := k) (k := n - k) (by rw [List.take_append_drop]; exact hr) (by rw [List.length_take, hr.1]; omega) hnc (by omega)
      simpa [add_plain] using this
theorem run_slice_take (ht : P.underlying t = some (.slice e)) (hs : ∀ w, (sizeOf e).run P w = .ok R.size w) (hr : RowR R w A n V) (hnc : n ≤ c) (hk : k ≤ n) :
    ∃ A', (∀ w', (Instr.sliceAt t (.slice A n c) none (some (.int kd k)) none).run P w' = .ok (.slice A' k c) w') ∧ RowR R w A' k (V.take k) := by
  have e1 : ∀ w', (Instr.sliceAt t (.slice A n c) none (some (.int kd k)) none).run P w' = .ok (.slice (if c = 0 then A else A.map (·.add (0 * R.size))) k c) w' := by
    intro w'
    simp [Instr.sliceAt, Instr.slice, Instr.sliceBounds, Instr.sliceBound, run_underlying ht, hs, asIntOf]
    omega
  refine ⟨_, e1, ?_⟩
  by_cases h0 : n = 0
  · have : V = [] := List.eq_nil_of_length_eq_zero (by have := hr.1; omega)
    subst this
    have e2 : k = 0 := by omega
    subst e2
    rw [List.take_nil]
    exact RowR.nil _
  · rcases hr.2.2 with h | ⟨b, off, rfl, hlt, hc⟩
    · exact absurd h h0
    · have := RowR.take (R := R) (U := V.take k) (V := V.drop k) (m := k) (by rw [List.take_append_drop]; exact hr) (by rw [List.length_take, hr.1]; omega)
      simpa [add_plain] using this
/-- What an append leaves of the blocks below. -/
theorem grown_low {w' : World} {v : Value} {B : Nat} (hg : w.grownBy w' v.ownBlock) (hB : B ≤ w.heap.size) (hlo : ∀ g, v.ownBlock = some g → B ≤ g) : Below B w w' :=
  ⟨hg.os, hg.tape, hg.output, hg.size, fun j hj => hg.block j (by omega) (fun e => by have := hlo j e.symm; omega)⟩
theorem wpList_slice {ops : Array Oper} {rest : List Oper} {o : Oper} {a : Act} {Q : Exit → Act → World → Prop} (hg : o.guard = none) (x : Operand) (lo hi mx : Option Operand) (ho : o.op = .slice t x lo hi mx) (v : Value)
    (hrun : (Instr.sliceAt t (a.eval x) (lo.map a.eval) (hi.map a.eval) (mx.map a.eval)).run P w = .ok v w) (h : wpList P ops Q rest (a.put o.dst v) w) : wpList P ops Q (o :: rest) a w := by
  refine wpList_plain hg fun K' hK' => ?_
  unfold Oper.wp
  simp only [execOp, ho, hrun, Sem.run_bind, Sem.run_pure, Result.andThen_ok]
  exact hK' _ _ h
end
end Go.Proofs.Ytfncipoiblieeaa
