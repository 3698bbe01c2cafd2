/- Outcomes loaded in regions that draw their order, whose operations only read (Later). -/
import Derived.Test.YtpfmjocpgnoepaaOuts
import Derived.Test.YtpfmjocpgnoepaaLater
namespace Go.Proofs.Ytpfmjocpgnoepaa
set_option linter.unusedVariables false
open Go.ChangeShapes Go.WideShapes Go.ChangeAt Go.RowKit

theorem wpQuiet_load_out {ops : Array Oper} {w : World} {Q : Act → Prop} {o : Oper} {rest : List Oper} {a : Act} (hw : Region.wanted o (yielded ops a.tmps) = true) (x : Operand) (ho : o.op = .load 59 x) (b p : Nat) (hx : a.eval x = .pointer (some ⟨b, p, none⟩)) (y : Ot) (hr : w.rangeAt b p y.vals)
    (h : wpQuiet Try.prog ops (fun w' => ∃ p : Later w, w' = p.v) Q rest (a.put o.dst (.agg (aggV y.vals)))) : wpQuiet Try.prog ops (fun w' => ∃ p : Later w, w' = p.v) Q (o :: rest) a := by
  obtain ⟨fs, hu⟩ := undO
  have hrun : ∀ q : Later w, (Instr.loadAt 59 (.pointer (some ⟨b, p, none⟩))).run Try.prog q.v = .ok (.agg (aggV y.vals)) q.v := fun q =>
    run_loadAt_mid q.v b p 59 y.vals _ (range_later hr q.low) hu rfl (sizeO y)
  exact BigFrame.wpQuiet_want hw fun K hK => ⟨.agg (aggV y.vals), fun w' ⟨q, hq⟩ => by subst hq; unfold Oper.quietAt execOp; simp [ho, hx, hrun q, Oper.quietUpon], hK _ h⟩
end Go.Proofs.Ytpfmjocpgnoepaa
