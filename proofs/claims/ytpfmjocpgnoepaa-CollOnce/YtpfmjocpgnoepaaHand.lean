/- Steps of a drawn region that is walked by hand: a call of a Go function, a store of many cells into a block that nobody opens. No package's types. -/
import Derived.Test.YtpfmjocpgnoepaaAgg
import Derived.Deep.MidRow
import Derived.Deep.RegionHeld3
namespace Go.Proofs.Ytpfmjocpgnoepaa
set_option linter.unusedVariables false
open Go.ChangeShapes Go.WideShapes Go.ChangeAt Go.RowKit

/-- One operation that comes up next, behind a name that no tactic looks into. -/
structure Stepping (P : Program) (ops : Array Oper) (o : Oper) (a : Act) (w : World) (K : Act → World → Prop) (Q : Exit → Act → World → Prop) (E : Prop) : Prop where
  go : if Region.wanted o (yielded ops a.tmps) = true then Oper.wp P o a w K Q else E
section
variable {P : Program} {md : Region.Mode} {ops : Array Oper} {a : Act} {w : World} {Q : Exit → Act → World → Prop} {S : World → Prop}
theorem ready_cons {fuel : Nat} {listed : Array Bool} {i : Nat} {o : Oper} {rs : List Nat} (ho : ops[i]? = some o)
    (h : ∀ K' : Act → World → Prop, Shut (∀ a w, S w → (S w → wpAnyH P md ops Q S fuel (listed.setIfInBounds i true) a w) → K' a w) → Stepping P ops o a w K' Q (K' (a.put o.dst undef) w))
    (hs : AllReadyH P md ops Q S fuel listed a w rs) : AllReadyH P md ops Q S fuel listed a w (i :: rs) := AllReadyH.cons ho (fun K' hK => (h K' hK).go) hs
end
section
variable {P : Program} {ops : Array Oper} {o : Oper} {a : Act} {w w' : World} {Q : Exit → Act → World → Prop} {K : Act → World → Prop} {E : Prop}
theorem wanted_step (hg : o.guard = none) (h : Oper.wp P o a w K Q) : Stepping P ops o a w K Q E := by
  constructor
  rw [if_pos (show Region.wanted o (yielded ops a.tmps) = true by simp [Region.wanted, hg])]
  exact h
theorem call_step {f : FuncId} {args : Array Value} (hg : o.guard = none) (hrun : (execOp a.eval o).run P w = .ok (.enter f args) w) (h : Calls P f args w fun e w' => ∃ v, e = .returned v ∧ K (a.put o.dst v) w') :
    Stepping P ops o a w K Q E := by
  refine wanted_step hg ?_
  unfold Oper.wp
  rw [hrun, Oper.upon_enter]
  exact h.mono (by rintro _ w' ⟨v, rfl, hk⟩; exact hk)
/-- A call's answer, handed on where it is wanted. -/
theorem Calls.hand {f : FuncId} {args : Array Value} {R : Value → World → Prop} {d : Option Tmp} (h : Calls P f args w fun e w' => ∃ v, e = .returned v ∧ R v w') (hk : ∀ v w', R v w' → K (a.put d v) w') :
    Calls P f args w fun e w' => ∃ v, e = .returned v ∧ K (a.put d v) w' := h.mono (by rintro _ w' ⟨v, rfl, hr⟩; exact ⟨v, rfl, hk v w' hr⟩)
theorem store_step (hg : o.guard = none) (ty : TypeId) (x y : Operand) (ho : o.op = .store ty x y) (g off : Nat) (bt : TypeId) (vs us : List Value) (hx : a.eval x = .pointer (some ⟨g, off, none⟩)) (hy : a.eval y = .agg (aggV us)) (hb : w.heap[g]? = some (vobj bt vs)) (hl : off + us.length ≤ vs.length) (hi : (P.info? ty).map (·.size) = some us.length) (h1 : Ones us)
    (h : ∀ w', w'.heap[g]? = some (vobj bt (putV vs off us)) → Frm (· = g) w w' → w'.heap.size = w.heap.size → K (a.put o.dst undef) w') :
    Stepping P ops o a w K Q E :=
  wanted_step hg (wp_store_mid ty x y ho g off (aggV us) hx hy (by rw [aggV_size]; exact vobj_there hb _ _ hl) (by rw [hi, aggV_size]) (aggV_one h1)
    (h _ (vobj_puts us vs off w hb) (frm_setCells (F := (· = g)) (b := g) rfl _ _ _ _ (Frm.refl _ _)) (size_setCellsV _ _ _ _)))
theorem store1_step (hg : o.guard = none) (ty : TypeId) (x y : Operand) (ho : o.op = .store ty x y) (g j : Nat) (bt : TypeId) (vs : List Value) (v : Value) (hx : a.eval x = .pointer (some ⟨g, j, none⟩)) (hy : a.eval y = v) (hb : w.heap[g]? = some (vobj bt vs)) (hj : j < vs.length) (hi : (P.info? ty).map (·.size) = some 1) (hc : v.cells = #[v]) (h1 : v.oneCell' = true)
    (h : ∀ w', w'.heap[g]? = some (vobj bt (vs.set j v)) → Frm (· = g) w w' → w'.heap.size = w.heap.size → K (a.put o.dst undef) w') :
    Stepping P ops o a w K Q E := by
  refine wanted_step hg ?_
  unfold Oper.wp
  simp only [execOp, ho, hx, hy, Instr.storeAt, Instr.sureAddr, Sem.run_bind, Sem.run_pure, Result.andThen_ok, run_storeVar_one w g j ty v hc (vobj_there hb j 1 (by omega)) hi h1]
  exact h _ (vobj_puts [v] vs j w hb) (frm_setCells (F := (· = g)) (b := g) rfl _ _ _ _ (Frm.refl _ _)) (size_setCellsV _ _ _ _)
end
end Go.Proofs.Ytpfmjocpgnoepaa
