/- Regions that draw their order, whose operations only read and whose callees leave of what was there all as it was ('Below'), walked once in the text's order, guards that are false passed over. No package's types. -/
import Derived.Test.YtfncipoiblieeaaBlk
import Derived.BigQuiet
namespace Go.Proofs.Ytfncipoiblieeaa
set_option linter.unusedVariables false
open Go.ChangeShapes Go.WideShapes Go.ChangeAt Go.RowKit

/-- A world that comes behind w: of what was there nothing has turned. -/
structure Later (w : World) where
  v : World
  low : Below w.heap.size w v
instance (w : World) : Inhabited (Later w) := ⟨⟨w, Below.refl _ _⟩⟩
theorem wp_region_later {P : Program} {id : Nat} {Q : Exit → Act → World → Prop} {a : Act} {w : World} {l : List Oper} (hm : P.follows .mixedOrders = true) (hB : Region.lexB .any l.toArray = true)
    (h : wpQuiet P l.toArray (fun w' => ∃ p : Later w, w' = p.v) (fun a' => ∀ w', (∃ p : Later w, w' = p.v) → Q .normal a' w') l a) : (Code.region id l.toArray true).wp P Q a w :=
  wp_region_quiet (C := fun w' => ∃ p : Later w, w' = p.v) hm hB ⟨⟨{ w with drawn := w.drawn + 1 }, below_ali (Below.refl _ _) ⟨rfl, rfl, rfl, rfl⟩⟩, rfl⟩ (by simpa using h)
/-- A callee's contract, met in such a world. -/
theorem Calls.later_of {P : Program} {f : FuncId} {args : Array Value} {w : World} {p : Later w} {v : Value} (h : Calls P f args p.v fun e w' => e = .returned v ∧ Below p.v.heap.size p.v w') :
    Calls P f args p.v fun e w'' => e = .returned v ∧ ∃ p : Later w, w'' = p.v :=
  h.mono fun _ w' ⟨he, hb⟩ => ⟨he, ⟨w', p.low.trans (hb.mono p.low.size)⟩, rfl⟩
/-- One whose world stands as it was. -/
theorem Calls.later_is {P : Program} {f : FuncId} {args : Array Value} {w : World} {p : Later w} {v : Value} (h : Calls P f args p.v fun e w' => e = .returned v ∧ p.v = w') :
    Calls P f args p.v fun e w'' => e = .returned v ∧ ∃ p : Later w, w'' = p.v :=
  h.mono fun _ w' ⟨he, hb⟩ => ⟨he, p, hb.symm⟩
/-- A load whose run is said (a value of many cells: nothing opens it). -/
theorem wpQuiet_load {P : Program} {ops : Array Oper} {w : World} {Q : Act → Prop} {o : Oper} {rest : List Oper} {a : Act} (hw : Region.wanted o (yielded ops a.tmps) = true) (ty : TypeId) (x : Operand) (ho : o.op = .load ty x) (b : Nat) (hx : a.eval x = .pointer (some ⟨b, 0, none⟩)) (v : Value) (hrun : ∀ p : Later w, (Instr.loadAt ty (.pointer (some ⟨b, 0, none⟩))).run P p.v = .ok v p.v)
    (h : wpQuiet P ops (fun w' => ∃ p : Later w, w' = p.v) Q rest (a.put o.dst v)) : wpQuiet P ops (fun w' => ∃ p : Later w, w' = p.v) Q (o :: rest) a :=
  BigFrame.wpQuiet_want hw fun K hK => ⟨v, fun w' ⟨p, hp⟩ => by subst hp; unfold Oper.quietAt execOp; simp [ho, hx, hrun p, Oper.quietUpon], hK _ h⟩
theorem Later.heap {w : World} (p : Later w) {j : Nat} {o : Obj} (h : w.heap[j]? = some o) : p.v.heap[j]? = some o := kb_below h p.low
theorem Later.cell {w : World} (p : Later w) {a : Addr} {v : Value} (h : w.cell? a = some v) : p.v.cell? a = some v := (World.cell?_of_block (p.low.block _ (cell_lt h))).trans h
end Go.Proofs.Ytfncipoiblieeaa
