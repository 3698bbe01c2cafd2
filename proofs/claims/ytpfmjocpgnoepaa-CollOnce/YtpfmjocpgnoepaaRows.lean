/-
  No cell of these rows narrows 'for every input' (looked for: loops, veiled, ifaces, maps, wideKeys, modest, calm, conditions, laid).
  DERIVED. THE GIVEN ROWS OF THIS SEAT. 9 by the template 'for every input the law returns true; each argument reads behind the call as it read before'; 0 by the template 'total and deterministic' (their statements: YtpfmjocpgnoepaaTotals.lean).
  GIVEN WITH THE SEED: the statements are not yours to turn. If you find one false, say at which input.
  Laid BY PROGRAM, IN A SANDBOX (cutbox-rows.mjs): the forced cells as the released guide's own fill.sh prints them over the translation e681a905c37c4279… (all of the seat's roots in one cut). By AI agents, Wed Nov 11 2026. No macro, syntax, notation, axiom, sorry.
-/
import Derived.Test.YtpfmjocpgnoepaaChecked
import GoSem.Claim
import GoSem.ClaimJoined
import GoSem.ClaimMapViews
import Derived.JoinedTies
import Derived.KernelRfl
namespace Go.Proofs.Ytpfmjocpgnoepaa
/- THE CELL 'sum', in the pinned program and in every row, IS THE sha256 OF THE DUMP (.gsa) THAT YtpfmjocpgnoepaaProg.lean LOADS. Nothing in Lean hashes anything: it is a label: what it is worth is what the hold of that sum in a sandbox is worth. -/
noncomputable def Try.pinned : Pinned := { name := "ytpfmjocpgnoepaa", sum := "e681a905c37c42790995d40ad301461f312702541d674513a878b17290458404", checked := Try.checked }
namespace Rows
def none {H : Type} : Left H := { results := [], args := [] }

/-- 'porpoiselaw15.CallTells': WHATEVER THE INPUT: true; the input reads as it did. -/
def callTellsSpec : ChangeSpec := { name := "callTells", fn := fun _ => fun
  | [d1, d2, d3] => { results := [.lit (.bool true)], args := [d1, d2, d3] }
  | _ => none }
def callTellsRow : OpenClaim := { program := "ytpfmjocpgnoepaa", sum := "e681a905c37c42790995d40ad301461f312702541d674513a878b17290458404", func := "porpoise/porpoiselaw15.CallTells", spec := "callTells", apart := false }
def CallTellsSaid : Prop := callTellsRow.holds Try.pinned (OpenSpec.ofChange callTellsSpec)

/-- ITS FALSE NEIGHBOUR: 'it returns false'. Refute it at one input. -/
def callTellsWrong : ChangeSpec := { name := "callTells", fn := fun _ => fun
  | [d1, d2, d3] => { results := [.lit (.bool false)], args := [d1, d2, d3] }
  | _ => none }
def CallTellsWrongFalsely : Prop := callTellsRow.holds Try.pinned (OpenSpec.ofChange callTellsWrong)

/-- 'porpoiselaw15.CallOuts': WHATEVER THE INPUT: true; the input reads as it did. -/
def callOutsSpec : ChangeSpec := { name := "callOuts", fn := fun _ => fun
  | [d1, d2, d3] => { results := [.lit (.bool true)], args := [d1, d2, d3] }
  | _ => none }
def callOutsRow : OpenClaim := { program := "ytpfmjocpgnoepaa", sum := "e681a905c37c42790995d40ad301461f312702541d674513a878b17290458404", func := "porpoise/porpoiselaw15.CallOuts", spec := "callOuts", apart := false }
def CallOutsSaid : Prop := callOutsRow.holds Try.pinned (OpenSpec.ofChange callOutsSpec)

/-- ITS FALSE NEIGHBOUR: 'it returns false'. Refute it at one input. -/
def callOutsWrong : ChangeSpec := { name := "callOuts", fn := fun _ => fun
  | [d1, d2, d3] => { results := [.lit (.bool false)], args := [d1, d2, d3] }
  | _ => none }
def CallOutsWrongFalsely : Prop := callOutsRow.holds Try.pinned (OpenSpec.ofChange callOutsWrong)

/-- 'porpoiselaw15.CallEnds': WHATEVER THE INPUT: true; the input reads as it did. -/
def callEndsSpec : ChangeSpec := { name := "callEnds", fn := fun _ => fun
  | [d1, d2, d3] => { results := [.lit (.bool true)], args := [d1, d2, d3] }
  | _ => none }
def callEndsRow : OpenClaim := { program := "ytpfmjocpgnoepaa", sum := "e681a905c37c42790995d40ad301461f312702541d674513a878b17290458404", func := "porpoise/porpoiselaw15.CallEnds", spec := "callEnds", apart := false }
def CallEndsSaid : Prop := callEndsRow.holds Try.pinned (OpenSpec.ofChange callEndsSpec)

/-- ITS FALSE NEIGHBOUR: 'it returns false'. Refute it at one input. -/
def callEndsWrong : ChangeSpec := { name := "callEnds", fn := fun _ => fun
  | [d1, d2, d3] => { results := [.lit (.bool false)], args := [d1, d2, d3] }
  | _ => none }
def CallEndsWrongFalsely : Prop := callEndsRow.holds Try.pinned (OpenSpec.ofChange callEndsWrong)

/-- 'porpoiselaw15.CallOver': WHATEVER THE INPUT: true; the input reads as it did. -/
def callOverSpec : ChangeSpec := { name := "callOver", fn := fun _ => fun
  | [d1, d2] => { results := [.lit (.bool true)], args := [d1, d2] }
  | _ => none }
def callOverRow : OpenClaim := { program := "ytpfmjocpgnoepaa", sum := "e681a905c37c42790995d40ad301461f312702541d674513a878b17290458404", func := "porpoise/porpoiselaw15.CallOver", spec := "callOver", apart := false }
def CallOverSaid : Prop := callOverRow.holds Try.pinned (OpenSpec.ofChange callOverSpec)

/-- ITS FALSE NEIGHBOUR: 'it returns false'. Refute it at one input. -/
def callOverWrong : ChangeSpec := { name := "callOver", fn := fun _ => fun
  | [d1, d2] => { results := [.lit (.bool false)], args := [d1, d2] }
  | _ => none }
def CallOverWrongFalsely : Prop := callOverRow.holds Try.pinned (OpenSpec.ofChange callOverWrong)

/-- 'porpoiselaw15.CallMay': WHATEVER THE INPUT: true; the input reads as it did. -/
def callMaySpec : ChangeSpec := { name := "callMay", fn := fun _ => fun
  | [d1, d2, d3] => { results := [.lit (.bool true)], args := [d1, d2, d3] }
  | _ => none }
def callMayRow : OpenClaim := { program := "ytpfmjocpgnoepaa", sum := "e681a905c37c42790995d40ad301461f312702541d674513a878b17290458404", func := "porpoise/porpoiselaw15.CallMay", spec := "callMay", apart := false }
def CallMaySaid : Prop := callMayRow.holds Try.pinned (OpenSpec.ofChange callMaySpec)

/-- ITS FALSE NEIGHBOUR: 'it returns false'. Refute it at one input. -/
def callMayWrong : ChangeSpec := { name := "callMay", fn := fun _ => fun
  | [d1, d2, d3] => { results := [.lit (.bool false)], args := [d1, d2, d3] }
  | _ => none }
def CallMayWrongFalsely : Prop := callMayRow.holds Try.pinned (OpenSpec.ofChange callMayWrong)

/-- 'porpoiselaw15.CallRuns': WHATEVER THE INPUT: true; the input reads as it did. -/
def callRunsSpec : ChangeSpec := { name := "callRuns", fn := fun _ => fun
  | [d1, d2] => { results := [.lit (.bool true)], args := [d1, d2] }
  | _ => none }
def callRunsRow : OpenClaim := { program := "ytpfmjocpgnoepaa", sum := "e681a905c37c42790995d40ad301461f312702541d674513a878b17290458404", func := "porpoise/porpoiselaw15.CallRuns", spec := "callRuns", apart := false }
def CallRunsSaid : Prop := callRunsRow.holds Try.pinned (OpenSpec.ofChange callRunsSpec)

/-- ITS FALSE NEIGHBOUR: 'it returns false'. Refute it at one input. -/
def callRunsWrong : ChangeSpec := { name := "callRuns", fn := fun _ => fun
  | [d1, d2] => { results := [.lit (.bool false)], args := [d1, d2] }
  | _ => none }
def CallRunsWrongFalsely : Prop := callRunsRow.holds Try.pinned (OpenSpec.ofChange callRunsWrong)

/-- 'porpoiselaw13.BatchTells': WHATEVER THE INPUT: true; the input reads as it did. -/
def batchTellsSpec : ChangeSpec := { name := "batchTells", fn := fun _ => fun
  | [d1, d2, d3] => { results := [.lit (.bool true)], args := [d1, d2, d3] }
  | _ => none }
def batchTellsRow : OpenClaim := { program := "ytpfmjocpgnoepaa", sum := "e681a905c37c42790995d40ad301461f312702541d674513a878b17290458404", func := "porpoise/porpoiselaw13.BatchTells", spec := "batchTells", apart := false }
def BatchTellsSaid : Prop := batchTellsRow.holds Try.pinned (OpenSpec.ofChange batchTellsSpec)

/-- ITS FALSE NEIGHBOUR: 'it returns false'. Refute it at one input. -/
def batchTellsWrong : ChangeSpec := { name := "batchTells", fn := fun _ => fun
  | [d1, d2, d3] => { results := [.lit (.bool false)], args := [d1, d2, d3] }
  | _ => none }
def BatchTellsWrongFalsely : Prop := batchTellsRow.holds Try.pinned (OpenSpec.ofChange batchTellsWrong)

/-- 'porpoiselaw14.CollPlays': WHATEVER THE INPUT: true; the input reads as it did. -/
def collPlaysSpec : ChangeSpec := { name := "collPlays", fn := fun _ => fun
  | [d1, d2, d3] => { results := [.lit (.bool true)], args := [d1, d2, d3] }
  | _ => none }
def collPlaysRow : OpenClaim := { program := "ytpfmjocpgnoepaa", sum := "e681a905c37c42790995d40ad301461f312702541d674513a878b17290458404", func := "porpoise/porpoiselaw14.CollPlays", spec := "collPlays", apart := false }
def CollPlaysSaid : Prop := collPlaysRow.holds Try.pinned (OpenSpec.ofChange collPlaysSpec)

/-- ITS FALSE NEIGHBOUR: 'it returns false'. Refute it at one input. -/
def collPlaysWrong : ChangeSpec := { name := "collPlays", fn := fun _ => fun
  | [d1, d2, d3] => { results := [.lit (.bool false)], args := [d1, d2, d3] }
  | _ => none }
def CollPlaysWrongFalsely : Prop := collPlaysRow.holds Try.pinned (OpenSpec.ofChange collPlaysWrong)

/-- 'porpoiselaw14.CollOnce': WHATEVER THE INPUT: true; the input reads as it did. -/
def collOnceSpec : ChangeSpec := { name := "collOnce", fn := fun _ => fun
  | [d1, d2] => { results := [.lit (.bool true)], args := [d1, d2] }
  | _ => none }
def collOnceRow : OpenClaim := { program := "ytpfmjocpgnoepaa", sum := "e681a905c37c42790995d40ad301461f312702541d674513a878b17290458404", func := "porpoise/porpoiselaw14.CollOnce", spec := "collOnce", apart := false }
def CollOnceSaid : Prop := collOnceRow.holds Try.pinned (OpenSpec.ofChange collOnceSpec)

/-- ITS FALSE NEIGHBOUR: 'it returns false'. Refute it at one input. -/
def collOnceWrong : ChangeSpec := { name := "collOnce", fn := fun _ => fun
  | [d1, d2] => { results := [.lit (.bool false)], args := [d1, d2] }
  | _ => none }
def CollOnceWrongFalsely : Prop := collOnceRow.holds Try.pinned (OpenSpec.ofChange collOnceWrong)

/- THE SECOND FORM. 'bulk': how many values and letters a reading holds, each counted each time it is reached (what is shared counts as often as it is met; a slice's spare places count too). A statement '..UptoSaid' is the law's where the arguments, and the package variables that the reading takes, are together of bulk at most 1048576: NARROWER than '..Said'. Prove '..Said' where nothing that the law and all that it calls make is longer than what came in: it says more and counts as full. Else prove '..UptoSaid'. A law counts once. -/
mutual
def uptoBulk {H : Type} : DataW H → Nat
  | .lit (.string bytes) => bytes.length + 1
  | .lit _ => 1
  | .nil => 1
  | .ptr d => uptoBulk d + 1
  | .slice elems spare => uptoBulkAll elems + uptoBulkAll spare + 1
  | .agg parts => uptoBulkAll parts + 1
  | .iface _ d => uptoBulk d + 1
  | .map entries => uptoBulkEntries entries + 1
  | .held _ => 1
def uptoBulkAll {H : Type} : List (DataW H) → Nat
  | [] => 0
  | d :: r => uptoBulk d + uptoBulkAll r
def uptoBulkEntries {H : Type} : List (Lit × DataW H) → Nat
  | [] => 0
  | x :: r => uptoBulkEntry x + uptoBulkEntries r
def uptoBulkEntry {H : Type} : Lit × DataW H → Nat
  | (.string bytes, d) => bytes.length + uptoBulk d + 1
  | (_, d) => uptoBulk d + 1
 end
def uptoSmall : (H : Type) → List (DataW H) → Bool := fun _ ds => decide (uptoBulkAll ds ≤ 1048576)
def OpenSpec.upto (s : _root_.Go.ChangeSpec) : _root_.Go.OpenSpec := { _root_.Go.OpenSpec.ofChange s with cond := some uptoSmall }

/-- 'porpoiselaw15.CallTells', WHERE WHAT IT READS IS OF BULK AT MOST 1048576: true; the input reads as it did. -/
def callTellsUptoRow : OpenClaim := { program := "ytpfmjocpgnoepaa", sum := "e681a905c37c42790995d40ad301461f312702541d674513a878b17290458404", func := "porpoise/porpoiselaw15.CallTells", spec := "callTells", apart := false, narrowed := true }
def CallTellsUptoSaid : Prop := callTellsUptoRow.holds Try.pinned (OpenSpec.upto callTellsSpec)

/-- 'porpoiselaw15.CallOuts', WHERE WHAT IT READS IS OF BULK AT MOST 1048576: true; the input reads as it did. -/
def callOutsUptoRow : OpenClaim := { program := "ytpfmjocpgnoepaa", sum := "e681a905c37c42790995d40ad301461f312702541d674513a878b17290458404", func := "porpoise/porpoiselaw15.CallOuts", spec := "callOuts", apart := false, narrowed := true }
def CallOutsUptoSaid : Prop := callOutsUptoRow.holds Try.pinned (OpenSpec.upto callOutsSpec)

/-- 'porpoiselaw15.CallEnds', WHERE WHAT IT READS IS OF BULK AT MOST 1048576: true; the input reads as it did. -/
def callEndsUptoRow : OpenClaim := { program := "ytpfmjocpgnoepaa", sum := "e681a905c37c42790995d40ad301461f312702541d674513a878b17290458404", func := "porpoise/porpoiselaw15.CallEnds", spec := "callEnds", apart := false, narrowed := true }
def CallEndsUptoSaid : Prop := callEndsUptoRow.holds Try.pinned (OpenSpec.upto callEndsSpec)

/-- 'porpoiselaw15.CallOver', WHERE WHAT IT READS IS OF BULK AT MOST 1048576: true; the input reads as it did. -/
def callOverUptoRow : OpenClaim := { program := "ytpfmjocpgnoepaa", sum := "e681a905c37c42790995d40ad301461f312702541d674513a878b17290458404", func := "porpoise/porpoiselaw15.CallOver", spec := "callOver", apart := false, narrowed := true }
def CallOverUptoSaid : Prop := callOverUptoRow.holds Try.pinned (OpenSpec.upto callOverSpec)

/-- 'porpoiselaw15.CallMay', WHERE WHAT IT READS IS OF BULK AT MOST 1048576: true; the input reads as it did. -/
def callMayUptoRow : OpenClaim := { program := "ytpfmjocpgnoepaa", sum := "e681a905c37c42790995d40ad301461f312702541d674513a878b17290458404", func := "porpoise/porpoiselaw15.CallMay", spec := "callMay", apart := false, narrowed := true }
def CallMayUptoSaid : Prop := callMayUptoRow.holds Try.pinned (OpenSpec.upto callMaySpec)

/-- 'porpoiselaw15.CallRuns', WHERE WHAT IT READS IS OF BULK AT MOST 1048576: true; the input reads as it did. -/
def callRunsUptoRow : OpenClaim := { program := "ytpfmjocpgnoepaa", sum := "e681a905c37c42790995d40ad301461f312702541d674513a878b17290458404", func := "porpoise/porpoiselaw15.CallRuns", spec := "callRuns", apart := false, narrowed := true }
def CallRunsUptoSaid : Prop := callRunsUptoRow.holds Try.pinned (OpenSpec.upto callRunsSpec)

/-- 'porpoiselaw13.BatchTells', WHERE WHAT IT READS IS OF BULK AT MOST 1048576: true; the input reads as it did. -/
def batchTellsUptoRow : OpenClaim := { program := "ytpfmjocpgnoepaa", sum := "e681a905c37c42790995d40ad301461f312702541d674513a878b17290458404", func := "porpoise/porpoiselaw13.BatchTells", spec := "batchTells", apart := false, narrowed := true }
def BatchTellsUptoSaid : Prop := batchTellsUptoRow.holds Try.pinned (OpenSpec.upto batchTellsSpec)

/-- 'porpoiselaw14.CollPlays', WHERE WHAT IT READS IS OF BULK AT MOST 1048576: true; the input reads as it did. -/
def collPlaysUptoRow : OpenClaim := { program := "ytpfmjocpgnoepaa", sum := "e681a905c37c42790995d40ad301461f312702541d674513a878b17290458404", func := "porpoise/porpoiselaw14.CollPlays", spec := "collPlays", apart := false, narrowed := true }
def CollPlaysUptoSaid : Prop := collPlaysUptoRow.holds Try.pinned (OpenSpec.upto collPlaysSpec)

/-- 'porpoiselaw14.CollOnce', WHERE WHAT IT READS IS OF BULK AT MOST 1048576: true; the input reads as it did. -/
def collOnceUptoRow : OpenClaim := { program := "ytpfmjocpgnoepaa", sum := "e681a905c37c42790995d40ad301461f312702541d674513a878b17290458404", func := "porpoise/porpoiselaw14.CollOnce", spec := "collOnce", apart := false, narrowed := true }
def CollOnceUptoSaid : Prop := collOnceUptoRow.holds Try.pinned (OpenSpec.upto collOnceSpec)

end Rows
end Go.Proofs.Ytpfmjocpgnoepaa
