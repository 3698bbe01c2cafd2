/- A sort of the library over a slice of records of the call's own: what it leaves, in my words for such slices. No package's types. -/
import Derived.Test.YtikocninbbkgdaaRecs
import Derived.Shelf.SlSortCmp.InsertionK
namespace Go.Proofs.Ytikocninbbkgdaa
set_option linter.unusedVariables false
open Go.ChangeShapes Go.WideShapes Go.ChangeAt Go.RowKit

section
variable {α : Type} [Inhabited α] {R : Rec α} {w w' : World} {base : Nat} {e : TypeId} {v : Value} {V U : List α}
theorem flatK_list (R : Rec α) (V : List α) : (Sort.flatK R.cells R.size V.toArray).toList = R.flat V := by
  have hlen : (Sort.flatK R.cells R.size V.toArray).toList.length = (R.flat V).length := by rw [Array.length_toList, Sort.size_flatK, R.flat_length]; simp
  refine List.ext_getElem hlen fun t h1 h2 => ?_
  rw [R.flat_length] at h2
  have hpos := R.pos
  have hd : t / R.size < V.length := (Nat.div_lt_iff_lt_mul hpos).2 h2
  have hm : t % R.size < R.size := Nat.mod_lt _ hpos
  have e1 := Sort.get_flatK R.cells R.size V.toArray t (by simpa using h2)
  rw [getElem!_pos _ t (by rw [Sort.size_flatK]; simpa using h2)] at e1
  simp only [Array.getElem_toList]
  rw [e1]
  have hV : V[t / R.size]? = some V[t / R.size] := List.getElem?_eq_getElem hd
  have hget : V.toArray[t / R.size]! = V[t / R.size] := by rw [getElem!_pos _ _ (by simpa using hd)]; simp
  rw [hget]
  have hc : (R.cells V[t / R.size])[t % R.size]? = some ((R.cells V[t / R.size])[t % R.size]'(by rw [R.len]; exact hm)) := List.getElem?_eq_getElem _
  have h3 := R.flat_at hV hc
  rw [show t / R.size * R.size + t % R.size = t by rw [Nat.mul_comm]; exact Nat.div_add_mod t R.size] at h3
  have h4 := List.getElem?_eq_some_iff.1 h3
  obtain ⟨_, h4⟩ := h4
  rw [h4, getElem!_pos _ _ (by rw [R.len]; exact hm)]
theorem holds_own {g : Nat} {cur : Array Value} (hg : w.heap[g]? = some (.cells cur e (0, 0))) (ht : cur.toList.take (V.length * R.size) = R.flat V) : Sort.HoldsK R.cells R.size w g 0 V.toArray := by
  intro j hj
  refine ⟨?_, frozen_of hg _⟩
  have hj' : j < V.length * R.size := by rw [Sort.size_flatK] at hj; simpa using hj
  rw [cell_of hg, Nat.zero_add, ← Array.getElem?_toList, ← List.getElem?_take_of_lt hj', ht, ← flatK_list R V, Array.getElem?_toList, Array.getElem?_eq_getElem hj, getElem!_pos (Sort.flatK R.cells R.size V.toArray) j hj]
  rfl
/-- What the sort leaves: the records d', in the same block; new blocks behind. -/
theorem own_sorted {g cap n : Nat} {cur : Array Value} {d' : Array α} {os : Array Obj} (hb : base ≤ g) (hg : w.heap[g]? = some (.cells cur e (0, 0))) (hnc : V.length ≤ cap) (hcm : cap ≤ maxLen) (hcs : cur.size = cap * R.size) (hd : d'.toList.length = V.length) :
    OwnR R (sortWorldK R.cells R.size w g 0 n d' os) base e (.slice (some ⟨g, 0, none⟩) V.length cap) d'.toList ∧ Frm (· = g) w (sortWorldK R.cells R.size w g 0 n d' os) := by
  have hlt := heap_lt hg
  have hF : (Sort.flatK R.cells R.size d').toList = R.flat d'.toList := by have := flatK_list R d'.toList; simpa using this
  have hsz : (Sort.flatK R.cells R.size d').size = V.length * R.size := by rw [Sort.size_flatK, ← Array.length_toList, hd]
  have hle : V.length * R.size ≤ cur.size := by rw [hcs]; exact Nat.mul_le_mul_right _ hnc
  have hhp : (sortWorldK R.cells R.size w g 0 n d' os).heap[g]? = some (.cells (Sort.putCells id 0 (Sort.flatK R.cells R.size d') cur) e (0, 0)) := by
    unfold sortWorldK
    rw [Sort.heap_grow_old _ _ (by rw [Sort.size_putRowK]; exact hlt)]
    show (w.heap.modify g (Sort.onCells _))[g]? = _
    rw [Array.getElem?_modify, if_pos rfl, hg]
    rfl
  constructor
  · refine ⟨⟨R.flat_length _, .inr ⟨g, cap, _, by rw [hd], hb, hhp, by rw [hd]; exact hnc, hcm, by simp [Sort.putCells, hcs], ?_⟩⟩, by rw [hd]; omega⟩
    rw [← hF, hd]
    refine List.ext_getElem (by simp [Sort.putCells, hsz]; omega) fun t h1 h2 => ?_
    have h2' : t < (Sort.flatK R.cells R.size d').size := by simpa using h2
    rw [List.getElem_take]
    simp only [Sort.putCells, Array.getElem_toList, Array.getElem_mapIdx, Nat.zero_add, Nat.zero_le, true_and, Nat.sub_zero, id]
    rw [if_pos h2', getElem!_pos (Sort.flatK R.cells R.size d') t h2']
  · refine ⟨rfl, rfl, rfl, by unfold sortWorldK; rw [Sort.size_grow, Sort.size_putRowK]; exact Nat.le_add_right _ _, fun j hj hn => ?_⟩
    unfold sortWorldK
    rw [Sort.heap_grow_old _ _ (by rw [Sort.size_putRowK]; exact hj)]
    show (w.heap.modify g (Sort.onCells _))[j]? = _
    rw [Array.getElem?_modify, if_neg (fun e => hn e.symm)]
end
end Go.Proofs.Ytikocninbbkgdaa
