/- Words of my own for worlds: what a store, a new block, a draw leave of the blocks; frames. No package's types. -/
import Derived.Test.YtfncipoiblieeaaKit
import Derived.BigQuiet
namespace Go.Proofs.Ytfncipoiblieeaa
set_option linter.unusedVariables false
open Go.ChangeShapes Go.WideShapes Go.ChangeAt Go.RowKit

/-- Two worlds that part in draws alone. -/
structure Ali (X w' : World) : Prop where
  heap : w'.heap = X.heap
  os : w'.os = X.os
  tape : w'.tape = X.tape
  output : w'.output = X.output
theorem Ali.refl (w : World) : Ali w w := ⟨rfl, rfl, rfl, rfl⟩
theorem Ali.trans {a b c : World} (h : Ali a b) (k : Ali b c) : Ali a c := ⟨k.heap.trans h.heap, k.os.trans h.os, k.tape.trans h.tape, k.output.trans h.output⟩

/-! ### worlds -/
theorem heap_set_same {w : World} {g o : Nat} {t : TypeId} {cs : Array Value} {f : Nat × Nat} (h : w.heap[g]? = some (.cells cs t f)) (u : Value) : (w.setCell ⟨g, o, none⟩ u).heap[g]? = some (.cells (cs.setIfInBounds o u) t f) := by
  simp [World.setCell, Array.getElem?_modify, h]
theorem heap_set_other {w : World} {p : Addr} {k : Nat} (h : k ≠ p.block) (u : Value) : (w.setCell p u).heap[k]? = w.heap[k]? := Below.heap_setCell w p u k h
theorem heap_set_size (w : World) (p : Addr) (u : Value) : (w.setCell p u).heap.size = w.heap.size := by simp [World.setCell]
theorem heap_alloc_lt {w : World} {o : Obj} {k : Nat} (h : k < w.heap.size) : (w.alloc o).heap[k]? = w.heap[k]? := Below.heap_alloc w o k h
theorem heap_alloc_at (w : World) (o : Obj) : (w.alloc o).heap[w.heap.size]? = some o := by
  show (w.heap.push o)[w.heap.size]? = _
  simp
theorem heap_lt {w : World} {k : Nat} {o : Obj} (h : w.heap[k]? = some o) : k < w.heap.size := (Array.getElem?_eq_some_iff.1 h).1
theorem cell_of {w : World} {g : Nat} {t : TypeId} {cs : Array Value} {f : Nat × Nat} (h : w.heap[g]? = some (.cells cs t f)) (o : Nat) : w.cell? ⟨g, o, none⟩ = cs[o]? := by simp [World.cell?, h]
theorem frozen_of {w : World} {g : Nat} {t : TypeId} {cs : Array Value} (h : w.heap[g]? = some (.cells cs t (0, 0))) (o : Nat) : w.frozen? ⟨g, o, none⟩ = false := by simp [World.frozen?, h]

/-- Of the blocks that were there none has turned but those of F. -/
structure Frm (F : Nat → Prop) (w w' : World) : Prop where
  os : w'.os = w.os
  tape : w'.tape = w.tape
  output : w'.output = w.output
  size : w.heap.size ≤ w'.heap.size
  block : ∀ j, j < w.heap.size → ¬ F j → w'.heap[j]? = w.heap[j]?
theorem Frm.refl (F : Nat → Prop) (w : World) : Frm F w w := ⟨rfl, rfl, rfl, Nat.le_refl _, fun _ _ _ => rfl⟩
theorem Frm.trans {F F' : Nat → Prop} {a b c : World} (h : Frm F a b) (k : Frm F' b c) (hF : ∀ j, j < a.heap.size → F' j → F j) : Frm F a c :=
  ⟨k.os.trans h.os, k.tape.trans h.tape, k.output.trans h.output, Nat.le_trans h.size k.size, fun j hj hn => (k.block j (Nat.lt_of_lt_of_le hj h.size) (fun hf => hn (hF j hj hf))).trans (h.block j hj hn)⟩
theorem Frm.mono {F F' : Nat → Prop} {a b : World} (h : Frm F a b) (hF : ∀ j, j < a.heap.size → F j → F' j) : Frm F' a b :=
  ⟨h.os, h.tape, h.output, h.size, fun j hj hn => h.block j hj (fun hf => hn (hF j hj hf))⟩
theorem Frm.ali {F : Nat → Prop} {a b c : World} (h : Frm F a b) (k : Ali b c) : Frm F a c :=
  ⟨k.os.trans h.os, k.tape.trans h.tape, k.output.trans h.output, by rw [k.heap]; exact h.size, fun j hj hn => by rw [k.heap]; exact h.block j hj hn⟩
theorem Frm.set {F : Nat → Prop} {a w : World} (h : Frm F a w) {p : Addr} (hp : F p.block) (u : Value) : Frm F a (w.setCell p u) :=
  ⟨h.os, h.tape, h.output, by rw [heap_set_size]; exact h.size, fun j hj hn => by rw [heap_set_other (fun e => hn (by rw [e]; exact hp))]; exact h.block j hj hn⟩
theorem Frm.alloc {F : Nat → Prop} {a w : World} (h : Frm F a w) (o : Obj) : Frm F a (w.alloc o) :=
  ⟨h.os, h.tape, h.output, by have := h.size; simp; omega, fun j hj hn => by rw [heap_alloc_lt (Nat.lt_of_lt_of_le hj h.size)]; exact h.block j hj hn⟩
theorem Frm.below {F : Nat → Prop} {w w' : World} (h : Frm F w w') {B : Nat} (hB : B ≤ w.heap.size) (hF : ∀ j, j < B → ¬ F j) : Below B w w' :=
  ⟨h.os, h.tape, h.output, h.size, fun j hj => h.block j (by omega) (hF j hj)⟩
theorem Frm.of_below {F : Nat → Prop} {w w' : World} (h : Below w.heap.size w w') : Frm F w w' := ⟨h.os, h.tape, h.output, h.size, fun j hj _ => h.block j hj⟩
theorem Frm.of_grown {F : Nat → Prop} {w w' : World} {m : Nat} (h : w.grownBy w' (some m)) (hm : F m) : Frm F w w' :=
  ⟨h.os, h.tape, h.output, h.size, fun j hj hn => h.block j hj (fun e => hn (by injection e with e; rw [e]; exact hm))⟩

theorem below_alloc (w : World) (o : Obj) : Below w.heap.size w (w.alloc o) := (Below.refl _ _).alloc (Nat.le_refl _) o
theorem below_drewN {B : Nat} {a w : World} (h : Below B a w) (n : Nat) : Below B a (w.drewN n) := ⟨h.os, h.tape, h.output, h.size, h.block⟩

def wf64 (k : Int) : Prop := -9223372036854775808 ≤ k ∧ k ≤ 9223372036854775807
theorem wf64.lit {k : Int} (h : wf64 k) : (Lit.int .i64 k).wf = true := WalkArith.wf_i64 h

theorem wf64_lit {k : Int} (h : -9223372036854775808 ≤ k) (h' : k ≤ 9223372036854775807) : wf64 k := ⟨h, h'⟩

theorem cell_lt {w : World} {a : Addr} {v : Value} (h : w.cell? a = some v) : a.block < w.heap.size := by
  unfold World.cell? at h
  split at h
  · rename_i hh
    exact heap_lt hh
  · cases h
theorem cell_alloc {w : World} {a : Addr} {v : Value} (h : w.cell? a = some v) (o : Obj) : (w.alloc o).cell? a = some v := (World.cell?_of_block (w := w) (heap_alloc_lt (cell_lt h))).trans h

theorem below_ali {B : Nat} {a w w' : World} (h : Below B a w) (k : Ali w w') : Below B a w' := ⟨k.os.trans h.os, k.tape.trans h.tape, k.output.trans h.output, by rw [k.heap]; exact h.size, fun j hj => by rw [k.heap]; exact h.block j hj⟩

theorem kb_below {w w' : World} {j : Nat} {o : Obj} (h : w.heap[j]? = some o) (hb : Below w.heap.size w w') : w'.heap[j]? = some o := (hb.block j (heap_lt h)).trans h
theorem kb_alloc {w : World} {j : Nat} {o : Obj} (h : w.heap[j]? = some o) (o' : Obj) : (w.alloc o').heap[j]? = some o := (heap_alloc_lt (heap_lt h)).trans h
theorem drew_ali (w : World) : Ali w w.drew := ⟨rfl, rfl, rfl, rfl⟩
theorem Frm.fresh {F : Nat → Prop} {a w : World} (h : Frm F a w) {g : Nat} (hg : a.heap.size ≤ g) (o o' : Nat) (u u' : Value) : Frm F a ((w.setCell ⟨g, o, none⟩ u).setCell ⟨g, o', none⟩ u') :=
  ⟨h.os, h.tape, h.output, by rw [heap_set_size, heap_set_size]; exact h.size, fun j hj hn => by rw [heap_set_other (show j ≠ g by omega), heap_set_other (show j ≠ g by omega)]; exact h.block j hj hn⟩
theorem Frm.then_below {F : Nat → Prop} {a w w' : World} (h : Frm F a w) (hb : Below w.heap.size w w') : Frm F a w' := h.trans (Frm.of_below (F := F) hb) (fun _ _ h => h)
theorem set_keep {w : World} {g j : Nat} (h : j ≠ g) (o o' : Nat) (u u' : Value) : ((w.setCell ⟨g, o, none⟩ u).setCell ⟨g, o', none⟩ u').heap[j]? = w.heap[j]? := by rw [heap_set_other h, heap_set_other h]
theorem Frm.of_ali {F : Nat → Prop} {w w' : World} (h : Ali w w') : Frm F w w' := (Frm.refl F w).ali h
theorem drewN_ali (w : World) (n : Nat) : Ali w (w.drewN n) := ⟨rfl, rfl, rfl, rfl⟩
theorem ali_below {w w' : World} (h : Ali w w') : Below w.heap.size w w' := below_ali (Below.refl _ _) h
end Go.Proofs.Ytfncipoiblieeaa
