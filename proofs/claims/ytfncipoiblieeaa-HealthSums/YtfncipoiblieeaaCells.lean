/- Words for blocks of integers of one kind behind a head of other cells: stores of many cells at once, clear, arrays by value. No package's types. -/
import Derived.Test.YtfncipoiblieeaaBlk
import Derived.Lib.SliceRun
import Derived.Deep.MidRow
namespace Go.Proofs.Ytfncipoiblieeaa
set_option linter.unusedVariables false
open Go.ChangeShapes Go.WideShapes Go.ChangeAt Go.RowKit

/-- A list with others laid over it from place o on. -/
def put : List Int → Nat → List Int → List Int
  | Z, _, [] => Z
  | Z, o, v :: r => put (Z.set o v) (o + 1) r
theorem put_len : ∀ (vs Z : List Int) (o : Nat), (put Z o vs).length = Z.length
  | [], _, _ => rfl
  | v :: r, Z, o => by rw [put, put_len r]; simp
theorem put_out : ∀ (vs Z : List Int) (o j : Nat), j < o ∨ o + vs.length ≤ j → (put Z o vs)[j]? = Z[j]?
  | [], _, _, _, _ => rfl
  | v :: r, Z, o, j, h => by
    simp at h
    rw [put, put_out r _ _ _ (by omega), List.getElem?_set_ne (by omega)]
theorem put_in : ∀ (vs Z : List Int) (o j : Nat), j < vs.length → o + j < Z.length → (put Z o vs)[o + j]? = vs[j]?
  | [], _, _, _, h, _ => by simp at h
  | v :: r, Z, o, 0, h, h' => by
    rw [put, put_out r _ _ _ (by omega), Nat.add_zero, List.getElem?_set_self (by omega)]
    rfl
  | v :: r, Z, o, j + 1, h, h' => by
    have := put_in r (Z.set o v) (o + 1) j (by simpa using h) (by simp; omega)
    rw [put, show o + (j + 1) = o + 1 + j by omega, this]
    rfl

/-- The block of a head and integers of a kind. -/
abbrev hobj (k : IntKind) (ty : TypeId) (H : List Value) (Z : List Int) : Obj := .cells ⟨H ++ Z.map (Value.int k)⟩ ty
theorem hobj_set {k : IntKind} (H : List Value) (Z : List Int) (j : Nat) (z : Int) : (Array.mk (H ++ Z.map (Value.int k))).setIfInBounds (H.length + j) (.int k z) = ⟨H ++ (Z.set j z).map (Value.int k)⟩ := by
  simp [List.map_set]
theorem hobj_cell {k : IntKind} {ty : TypeId} {w : World} {b : Nat} {H : List Value} {Z : List Int} (h : w.heap[b]? = some (hobj k ty H Z)) {j : Nat} {z : Int} (hz : Z[j]? = some z) : w.cell? ⟨b, H.length + j, none⟩ = some (.int k z) := by
  rw [cell_of h, List.getElem?_toArray, List.getElem?_append_right (by omega), Nat.add_sub_cancel_left, List.getElem?_map, hz]; rfl
theorem heap_setCells {k : IntKind} {ty : TypeId} {b : Nat} {H : List Value} : ∀ (vs : List Int) (o : Nat) (Z : List Int) (w : World), w.heap[b]? = some (hobj k ty H Z) → (w.setCells b (H.length + o) (vs.map (Value.int k))).heap[b]? = some (hobj k ty H (put Z o vs))
  | [], _, _, _, h => h
  | v :: r, o, Z, w, h => by
    have h1 := heap_set_same (o := H.length + o) h (.int k v)
    rw [hobj_set] at h1
    have := heap_setCells r (o + 1) _ _ h1
    exact this
theorem frm_setCells {F : Nat → Prop} {b : Nat} (hb : F b) : ∀ (vs : List Value) (o : Nat) (a w : World), Frm F a w → Frm F a (w.setCells b o vs)
  | [], _, _, _, h => h
  | v :: r, o, a, w, h => frm_setCells hb r (o + 1) a _ (h.set (p := ⟨b, o, none⟩) hb v)

/-- 'clear' of a slice whose elements are all of one integer, however they are parted: the cells are zero. -/
theorem run_clear_ints {P : Program} (w : World) (t e ty : TypeId) (k : IntKind) (z : Value) (m : Nat) (ht : P.underlying t = some (.slice e)) (hv : ∀ w, (zeroValue e).run P w = .ok z w) (hz : z.cells = Array.replicate m (.int k 0)) (hm : 0 < m) (b o n c : Nat) (hn : 0 < n)
    (hc : ∀ j, j < n * m → (w.cell? ⟨b, o + j, none⟩).isSome = true) (hf : ∀ j, j < n * m → w.frozen? ⟨b, o + j, none⟩ = false) :
    (Builtin.clear_ #[t] ty #[.slice (some ⟨b, o, none⟩) n c]).run P w = .ok (.tuple #[]) (w.setCells b o ((List.replicate (n * m) 0).map (Value.int k))) := by
  have hzc : (Builtin.zeroCells z.cells n).toList = (List.replicate (n * m) (0 : Int)).map (Value.int k) := by
    rw [hz]
    simp [Builtin.zeroCells]
    apply List.ext_getElem
    · simp
    · intro i h1 h2
      have := Nat.mod_lt i hm
      simp [this]
  have hst := run_storeCells_cells (P := P) b o ((List.replicate (n * m) (0 : Int)).map (Value.int k)) 0 w (by simpa using hc) (by simpa using hf) (by intro v hv'; simp at hv'; rw [hv'.2]; rfl)
  simp only [Nat.add_zero] at hst
  obtain ⟨q, rfl⟩ : ∃ q, n = q + 1 := ⟨n - 1, by omega⟩
  simp only [Builtin.clear_]
  simp [run_underlying ht, hv, hzc, hst, -List.map_replicate]

/-- An element of an array of integers by value. -/
theorem run_index_one {P : Program} (w : World) (t e : TypeId) (n : Nat) (cs : Array Value) (k : IntKind) (i : Int) (v : Value) (h : P.underlying t = some (.array n e)) (he : (isAgg e).run P w = .ok false w) (hs : (sizeOf e).run P w = .ok 1 w) (h0 : 0 ≤ i) (h1 : i < n) (hv : cs[i.toNat]? = some v) :
    (Instr.index t (.agg cs) (.int k i)).run P w = .ok v w := by
  simp [Instr.index, asIntOf, run_underlying h, h0, h1, part, he, hs, hv]
theorem run_index_agg {P : Program} (w : World) (t e : TypeId) (n s : Nat) (cs : Array Value) (k : IntKind) (i : Int) (h : P.underlying t = some (.array n e)) (he : (isAgg e).run P w = .ok true w) (hs : (sizeOf e).run P w = .ok s w) (h0 : 0 ≤ i) (h1 : i < n) :
    (Instr.index t (.agg cs) (.int k i)).run P w = .ok (.agg (cs.extract (i.toNat * s) (i.toNat * s + s))) w := by
  simp [Instr.index, asIntOf, run_underlying h, h0, h1, part, he, hs]
end Go.Proofs.Ytfncipoiblieeaa
