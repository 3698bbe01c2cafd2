/- Contracts of package wheel's lists: add, remove. -/
import Derived.Test.YtgpebbopggmgbaaBitsLev
import Derived.Deep.RegionLaw
import Derived.BigQuiet
namespace Go.Proofs.Ytgpebbopggmgbaa
set_option linter.unusedVariables false
open Go.ChangeShapes Go.WideShapes Go.ChangeAt Go.RowKit

/-- Two worlds that part in draws alone. -/
structure Ali (X w' : World) : Prop where
  heap : w'.heap = X.heap
  os : w'.os = X.os
  tape : w'.tape = X.tape
  output : w'.output = X.output
theorem Ali.refl (w : World) : Ali w w := ⟨rfl, rfl, rfl, rfl⟩
theorem Ali.trans {a b c : World} (h : Ali a b) (k : Ali b c) : Ali a c := ⟨k.heap.trans h.heap, k.os.trans h.os, k.tape.trans h.tape, k.output.trans h.output⟩

theorem add_none (b o g : Nat) (w : World) (x3 x4 x0 : Value) (hne : b ≠ g)
    (c1 : w.cell? ⟨b, o + 1, none⟩ = some (.pointer none)) (c0 : w.cell? ⟨b, o, none⟩ = some x0) (f1 : w.frozen? ⟨b, o + 1, none⟩ = false) (f0 : w.frozen? ⟨b, o, none⟩ = false)
    (e3 : w.cell? ⟨g, 3, none⟩ = some x3) (e4 : w.cell? ⟨g, 4, none⟩ = some x4) (g3 : w.frozen? ⟨g, 3, none⟩ = false) (g4 : w.frozen? ⟨g, 4, none⟩ = false) :
    Calls Try.prog 33 #[.pointer (some ⟨b, o, none⟩), .pointer (some ⟨g, 0, none⟩)] w fun e w' => e = .returned (.tuple #[]) ∧
      w' = (((w.setCell ⟨g, 3, none⟩ (.pointer none)).setCell ⟨g, 4, none⟩ (.pointer none)).setCell ⟨b, o, none⟩ (.pointer (some ⟨g, 0, none⟩))).setCell ⟨b, o + 1, none⟩ (.pointer (some ⟨g, 0, none⟩)) := by
  have hne' : g ≠ b := Ne.symm hne
  go_enter Try.func33, Try.ntmps33
  go_wp2
  go_end0
  exact ⟨rfl, rfl⟩

theorem add_some (b o g h : Nat) (w : World) (x3 x4 x0 y4 : Value) (hne : b ≠ g) (hbh : b ≠ h) (hgh : g ≠ h)
    (c1 : w.cell? ⟨b, o + 1, none⟩ = some (.pointer (some ⟨h, 0, none⟩))) (c0 : w.cell? ⟨b, o, none⟩ = some x0) (f1 : w.frozen? ⟨b, o + 1, none⟩ = false) (f0 : w.frozen? ⟨b, o, none⟩ = false)
    (e3 : w.cell? ⟨g, 3, none⟩ = some x3) (e4 : w.cell? ⟨g, 4, none⟩ = some x4) (g3 : w.frozen? ⟨g, 3, none⟩ = false) (g4 : w.frozen? ⟨g, 4, none⟩ = false)
    (h4 : w.cell? ⟨h, 4, none⟩ = some y4) (k4 : w.frozen? ⟨h, 4, none⟩ = false) :
    Calls Try.prog 33 #[.pointer (some ⟨b, o, none⟩), .pointer (some ⟨g, 0, none⟩)] w fun e w' => e = .returned (.tuple #[]) ∧
      w' = (((w.setCell ⟨g, 3, none⟩ (.pointer (some ⟨h, 0, none⟩))).setCell ⟨g, 4, none⟩ (.pointer none)).setCell ⟨h, 4, none⟩ (.pointer (some ⟨g, 0, none⟩))).setCell ⟨b, o + 1, none⟩ (.pointer (some ⟨g, 0, none⟩)) := by
  have hne' : g ≠ b := Ne.symm hne
  have hbh' : h ≠ b := Ne.symm hbh
  have hgh' : h ≠ g := Ne.symm hgh
  go_enter Try.func33, Try.ntmps33
  go_wp2
  go_end0
  exact ⟨rfl, rfl⟩

theorem remove_nn (b o g : Nat) (w : World) (x0 x1 : Value) (hne : b ≠ g)
    (c1 : w.cell? ⟨b, o + 1, none⟩ = some x1) (c0 : w.cell? ⟨b, o, none⟩ = some x0) (f1 : w.frozen? ⟨b, o + 1, none⟩ = false) (f0 : w.frozen? ⟨b, o, none⟩ = false)
    (e3 : w.cell? ⟨g, 3, none⟩ = some (.pointer none)) (e4 : w.cell? ⟨g, 4, none⟩ = some (.pointer none)) :
    Calls Try.prog 38 #[.pointer (some ⟨b, o, none⟩), .pointer (some ⟨g, 0, none⟩)] w fun e w' => e = .returned (.tuple #[]) ∧
      Ali ((w.setCell ⟨b, o, none⟩ (.pointer none)).setCell ⟨b, o + 1, none⟩ (.pointer none)) w' := by
  have hne' : g ≠ b := Ne.symm hne
  go_enter Try.func38, Try.ntmps38
  go_wp2
  go_end0
  exact ⟨rfl, rfl, rfl, rfl, rfl⟩

theorem remove_ns (b o g n : Nat) (w : World) (x0 y3 : Value) (hne : b ≠ g) (hbn : b ≠ n) (hgn : g ≠ n)
    (c0 : w.cell? ⟨b, o, none⟩ = some x0) (f0 : w.frozen? ⟨b, o, none⟩ = false)
    (e3 : w.cell? ⟨g, 3, none⟩ = some (.pointer none)) (e4 : w.cell? ⟨g, 4, none⟩ = some (.pointer (some ⟨n, 0, none⟩)))
    (n3 : w.cell? ⟨n, 3, none⟩ = some y3) (m3 : w.frozen? ⟨n, 3, none⟩ = false) :
    Calls Try.prog 38 #[.pointer (some ⟨b, o, none⟩), .pointer (some ⟨g, 0, none⟩)] w fun e w' => e = .returned (.tuple #[]) ∧
      Ali ((w.setCell ⟨b, o, none⟩ (.pointer (some ⟨n, 0, none⟩))).setCell ⟨n, 3, none⟩ (.pointer none)) w' := by
  have hne' : g ≠ b := Ne.symm hne
  have hbn' : n ≠ b := Ne.symm hbn
  have hgn' : n ≠ g := Ne.symm hgn
  go_enter Try.func38, Try.ntmps38
  go_wp2
  go_region
  all_goals (go_wp2; go_end0; exact ⟨rfl, rfl, rfl, rfl, rfl⟩)

theorem remove_sn (b o g p : Nat) (w : World) (x1 y4 : Value) (hne : b ≠ g) (hbp : b ≠ p) (hgp : g ≠ p)
    (c1 : w.cell? ⟨b, o + 1, none⟩ = some x1) (f1 : w.frozen? ⟨b, o + 1, none⟩ = false)
    (e3 : w.cell? ⟨g, 3, none⟩ = some (.pointer (some ⟨p, 0, none⟩))) (e4 : w.cell? ⟨g, 4, none⟩ = some (.pointer none))
    (p4 : w.cell? ⟨p, 4, none⟩ = some y4) (q4 : w.frozen? ⟨p, 4, none⟩ = false) :
    Calls Try.prog 38 #[.pointer (some ⟨b, o, none⟩), .pointer (some ⟨g, 0, none⟩)] w fun e w' => e = .returned (.tuple #[]) ∧
      Ali ((w.setCell ⟨p, 4, none⟩ (.pointer none)).setCell ⟨b, o + 1, none⟩ (.pointer (some ⟨p, 0, none⟩))) w' := by
  have hne' : g ≠ b := Ne.symm hne
  have hbp' : p ≠ b := Ne.symm hbp
  have hgp' : p ≠ g := Ne.symm hgp
  go_enter Try.func38, Try.ntmps38
  go_wp2
  go_region
  all_goals (go_wp2; go_end0; exact ⟨rfl, rfl, rfl, rfl, rfl⟩)

theorem remove_ss (b o g p n : Nat) (w : World) (y4 y3 : Value) (hne : b ≠ g) (hbp : b ≠ p) (hgp : g ≠ p) (hbn : b ≠ n) (hgn : g ≠ n) (hpn : p ≠ n)
    (e3 : w.cell? ⟨g, 3, none⟩ = some (.pointer (some ⟨p, 0, none⟩))) (e4 : w.cell? ⟨g, 4, none⟩ = some (.pointer (some ⟨n, 0, none⟩)))
    (p4 : w.cell? ⟨p, 4, none⟩ = some y4) (q4 : w.frozen? ⟨p, 4, none⟩ = false) (n3 : w.cell? ⟨n, 3, none⟩ = some y3) (m3 : w.frozen? ⟨n, 3, none⟩ = false) :
    Calls Try.prog 38 #[.pointer (some ⟨b, o, none⟩), .pointer (some ⟨g, 0, none⟩)] w fun e w' => e = .returned (.tuple #[]) ∧
      Ali ((w.setCell ⟨p, 4, none⟩ (.pointer (some ⟨n, 0, none⟩))).setCell ⟨n, 3, none⟩ (.pointer (some ⟨p, 0, none⟩))) w' := by
  have hgp' : p ≠ g := Ne.symm hgp
  have hgn' : n ≠ g := Ne.symm hgn
  have hpn' : n ≠ p := Ne.symm hpn
  go_enter Try.func38, Try.ntmps38
  go_wp2
  go_region
  all_goals go_wp2
  all_goals go_region
  all_goals (go_wp2; go_end0; exact ⟨rfl, rfl, rfl, rfl, rfl⟩)

end Go.Proofs.Ytgpebbopggmgbaa
