/- Two caches beside each other; what a deed leaves of another key. -/
import Derived.Test.YtlphahkmibhidaaRan12
import Derived.Test.YtlphahkmibhidaaDo12d
namespace Go.Proofs.Ytlphahkmibhidaa
set_option linter.unusedVariables false
open Go.ChangeShapes Go.WideShapes Go.ChangeAt Go.RowKit

theorem oc_split {w wA wB : World} {Fa Fb : Nat → Prop} {ba bb : Nat} {S T : CA} (oa : OwC w wA Fa ba S) (ob : OwC wA wB Fb bb T) : ∃ F1 F2 : Nat → Prop, OwC w wB F1 ba S ∧ Cch wB F2 bb T ∧ (∀ j, F2 j → w.heap.size ≤ j ∧ j < wB.heap.size) ∧ (∀ j, F1 j → ¬ F2 j) := by
  have hs := ob.low.size
  refine ⟨fun j => Fa j ∧ (j < wA.heap.size ∨ wB.heap.size ≤ j), fun j => wA.heap.size ≤ j ∧ j < wB.heap.size, ⟨(oa.cch.mono (fun j hj hF => ⟨hF, .inl hj⟩)).below ob.low, oa.low.trans (ob.low.mono oa.low.size), fun j h => oa.lo j h.1, fun j hj => ⟨oa.hi j (by omega), .inr hj⟩⟩, ob.cch.mono (fun j hj hF => ⟨ob.lo j hF, hj⟩), fun j h => ⟨Nat.le_trans oa.low.size h.1, h.2⟩, fun j h h' => by rcases h.2 with h | h <;> omega⟩
theorem oc_of_cch {w wX : World} {F : Nat → Prop} {b : Nat} {S : CA} (h : Cch wX F b S) (low : Below w.heap.size w wX) (lo : ∀ j, F j → w.heap.size ≤ j) : ∃ F', OwC w wX F' b S :=
  ⟨fun j => F j ∨ wX.heap.size ≤ j, h.mono (fun _ _ hF => .inl hF), low, fun j hj => by rcases hj with hj | hj; exact lo j hj; exact Nat.le_trans low.size hj, fun j hj => .inr hj⟩
theorem at_deed (S : CA) (d : Dd) (k : K3) (h : (d.kind = 1 ∧ d.k ≠ k) ∨ (d.kind ≠ 1 ∧ d.kind ≠ 2 ∧ d.k.a ≠ k.a)) : (S.deed d).asks k = S.asks k ∧ (S.deed d).tell k = S.tell k := by
  have ha : (S.deed d).at_ k = S.at_ k := by
    rcases h with ⟨h1, h2⟩ | ⟨h1, h2, h3⟩
    · rw [show S.deed d = S.ask d.k d.id by simp [CA.deed, h1]]
      rcases S.ways d.k d.id with ⟨_, _, _, e⟩ | ⟨_, _, _, _, e⟩ | ⟨_, x, _, _, _, _, e⟩ | ⟨_, x, _, _, _, _, e⟩ <;> rw [e]
      · unfold CA.at_
        simp only
        rw [List.find?_append]
        have : ¬ d.k = k := h2
        simp [this]
      · rfl
    · rw [show S.deed d = S.close d.k.a by simp [CA.deed, h1, h2]]
      unfold CA.at_ CA.close
      simp only
      rw [List.find?_filter]
      congr 1
      funext e
      by_cases he : e.k = k
      · have : ¬ k.a = d.k.a := fun e => h3 e.symm
        simp [he, this]
      · simp [he]
  constructor
  · unfold CA.asks; rw [ha]
  · unfold CA.tell; rw [ha]
end Go.Proofs.Ytlphahkmibhidaa
