/- Arrays of many numbers by value, the cells behind a list that nothing opens: a new one, load, store, box, an element, a function's result. No package's types. -/
import Derived.Test.YtpheifdneafkhaaCells
namespace Go.Proofs.Ytpheifdneafkhaa
set_option linter.unusedVariables false
open Go.ChangeShapes Go.WideShapes Go.ChangeAt Go.RowKit

/-- Numbers by value. -/
def arrU (Z : List Int) : Array Value := ⟨Z.map (Value.int .u64)⟩
/-- The block of such an array. -/
def aobj (ty : TypeId) (Z : List Int) : Obj := .cells (arrU Z) ty
theorem arrU_list (Z : List Int) : (arrU Z).toList = Z.map (Value.int .u64) := rfl
theorem arrU_size (Z : List Int) : (arrU Z).size = Z.length := by simp [arrU]
theorem arrU_at {Z : List Int} {j : Nat} {z : Int} (h : Z[j]? = some z) : (arrU Z)[j]? = some (.int .u64 z) := by simp [arrU, h]
theorem arrU_one (Z : List Int) : (arrU Z).all (·.oneCell') = true := by simp [arrU, Value.oneCell']
theorem arrU_inj {Y Z : List Int} (h : arrU Y = arrU Z) : Y = Z := by
  unfold arrU at h
  have h := congrArg Array.toList h
  exact (List.map_inj_right (f := Value.int .u64) (by intro a b e; injection e)).1 h
section
variable {w w' : World} {g j : Nat} {ty : TypeId} {Z Z' : List Int} {z : Int}
theorem aobj_cell (h : w.heap[g]? = some (aobj ty Z)) (hz : Z[j]? = some z) : w.cell? ⟨g, j, none⟩ = some (.int .u64 z) := by
  rw [cell_of h]; exact arrU_at hz
theorem aobj_frozen (h : w.heap[g]? = some (aobj ty Z)) (j : Nat) : w.frozen? ⟨g, j, none⟩ = false := frozen_of h j
theorem aobj_set (h : w.heap[g]? = some (aobj ty Z)) (j : Nat) (z : Int) : (w.setCell ⟨g, j, none⟩ (.int .u64 z)).heap[g]? = some (aobj ty (Z.set j z)) := by
  rw [heap_set_same h]; simp [aobj, arrU, List.map_set]
theorem aobj_range (h : w.heap[g]? = some (aobj ty Z)) : w.rangeAt g 0 (Z.map (Value.int .u64)) := fun j v hv => by
  simp only [List.getElem?_map, Option.map_eq_some_iff] at hv
  obtain ⟨z, hz, rfl⟩ := hv
  rw [Nat.zero_add]; exact aobj_cell h hz
theorem aobj_there (h : w.heap[g]? = some (aobj ty Z)) : w.there g 0 Z.length := fun j hj => by
  rw [Nat.zero_add]
  exact ⟨by rw [aobj_cell h (List.getElem?_eq_getElem hj)]; rfl, aobj_frozen h j⟩
theorem aobj_row (h : w.heap[g]? = some (aobj ty Z)) (hm : Z.length ≤ maxLen) (hb : ∀ n ∈ Z, 0 ≤ n ∧ n ≤ 18446744073709551615) : Row .u64 w (some ⟨g, 0, none⟩) Z.length Z :=
  ⟨Nat.le_refl _, hm, .inr ⟨g, 0, rfl, fun j hj => by rw [Nat.zero_add]; exact aobj_cell h (by rw [List.getD_eq_getElem?_getD, List.getElem?_eq_getElem hj]; rfl)⟩, fun n hn => WalkArith.wf_u64 ⟨(hb n hn).1, by have := (hb n hn).2; omega⟩⟩
theorem put_whole (hl : Z.length = Z'.length) : put Z 0 Z' = Z' := by
  apply List.ext_getElem?
  intro i
  by_cases hi : i < Z'.length
  · have := put_in Z' Z 0 i hi (by omega)
    rwa [Nat.zero_add] at this
  · rw [List.getElem?_eq_none (by rw [put_len]; omega), List.getElem?_eq_none (by omega)]
/-- The whole of it stored. -/
theorem aobj_puts (h : w.heap[g]? = some (aobj ty Z)) (hl : Z.length = Z'.length) : (w.setCells g 0 (Z'.map (Value.int .u64))).heap[g]? = some (aobj ty Z') := by
  have := heap_setCells (k := .u64) (ty := ty) (b := g) (H := []) Z' 0 Z w (by simpa [aobj, arrU, hobj] using h)
  rw [put_whole hl] at this
  simpa [aobj, arrU, hobj] using this
theorem size_setCells (b : Nat) : ∀ (vs : List Value) (o : Nat) (w : World), (w.setCells b o vs).heap.size = w.heap.size
  | [], _, _ => rfl
  | v :: r, o, w => by rw [World.setCells, size_setCells b r]; exact heap_set_size _ _ _
end

section
variable {P : Program} {ops : Array Oper} {rest : List Oper} {o : Oper} {a : Act} {w : World} {Q : Exit → Act → World → Prop}
theorem run_load_arr (w : World) (ty : TypeId) (g n : Nat) (e : TypeId) (Z : List Int) (hb : w.heap[g]? = some (aobj ty Z)) (hu : P.underlying ty = some (.array n e)) (hi : (P.info? ty).map (·.size) = some Z.length) :
    (loadVar ty ⟨g, 0, none⟩).run P w = .ok (.agg (arrU Z)) w :=
  run_loadVar_mid w g 0 ty (Z.map (Value.int .u64)) (.array n e) (aobj_range hb) hu rfl (by rw [hi, List.length_map])
theorem run_loadAt_arr (w : World) (ty : TypeId) (g n : Nat) (e : TypeId) (Z : List Int) (hb : w.heap[g]? = some (aobj ty Z)) (hu : P.underlying ty = some (.array n e)) (hi : (P.info? ty).map (·.size) = some Z.length) :
    (Instr.loadAt ty (.pointer (some ⟨g, 0, none⟩))).run P w = .ok (.agg (arrU Z)) w :=
  run_loadAt_mid w g 0 ty (Z.map (Value.int .u64)) (.array n e) (aobj_range hb) hu rfl (by rw [hi, List.length_map])
/-- A result that lies in a cell. -/
theorem results_cell {fn : Func} {tmps : Array Value} {t : TypeId} {c : Tmp} {p : Addr} {v : Value} (hr : fn.results = #[.cell c t]) (ha : tmps.getD c undef = .pointer (some p)) (hl : (loadVar t p).run P w = .ok v w) : (results fn tmps).run P w = .ok v w := by
  unfold results
  rw [hr]
  rw [Array.getD_eq_getD_getElem?] at ha
  simp [asAddr, ha, hl]
theorem results_cell2 {fn : Func} {tmps : Array Value} {t t' : TypeId} {c c' : Tmp} {p p' : Addr} {v v' : Value} (hr : fn.results = #[.cell c t, .cell c' t']) (ha : tmps.getD c undef = .pointer (some p)) (hl : (loadVar t p).run P w = .ok v w) (ha' : tmps.getD c' undef = .pointer (some p')) (hl' : (loadVar t' p').run P w = .ok v' w) :
    (results fn tmps).run P w = .ok (.tuple #[v, v']) w := by
  unfold results
  rw [hr]
  rw [Array.getD_eq_getD_getElem?] at ha ha'
  simp [asAddr, ha, hl, ha', hl']
theorem wpList_load_arr (hg : o.guard = none) (ty : TypeId) (x : Operand) (ho : o.op = .load ty x) (g : Nat) (hx : a.eval x = .pointer (some ⟨g, 0, none⟩)) (Z : List Int) (hb : w.heap[g]? = some (aobj ty Z)) (n : Nat) (e : TypeId) (hu : P.underlying ty = some (.array n e)) (hi : (P.info? ty).map (·.size) = some Z.length)
    (h : wpList P ops Q rest (a.put o.dst (.agg (arrU Z))) w) : wpList P ops Q (o :: rest) a w :=
  wpList_load_mid hg ty x ho g 0 hx (Z.map (Value.int .u64)) (.array n e) (aobj_range hb) hu rfl (by rw [hi, List.length_map]) h
/-- The same behind a guard that holds. -/
theorem wpList_load_arrG (hw : Region.wanted o (yielded ops a.tmps) = true) (ty : TypeId) (x : Operand) (ho : o.op = .load ty x) (g : Nat) (hx : a.eval x = .pointer (some ⟨g, 0, none⟩)) (Z : List Int) (hb : w.heap[g]? = some (aobj ty Z)) (n : Nat) (e : TypeId) (hu : P.underlying ty = some (.array n e)) (hi : (P.info? ty).map (·.size) = some Z.length)
    (h : wpList P ops Q rest (a.put o.dst (.agg (arrU Z))) w) : wpList P ops Q (o :: rest) a w :=
  BigFrame.wpList_want hw fun K hK => wp_load_mid ty x ho g 0 hx (Z.map (Value.int .u64)) (.array n e) (aobj_range hb) hu rfl (by rw [hi, List.length_map]) (hK _ _ h)
/-- Out of the middle of a block. -/
theorem wpList_load_arrAt (hg : o.guard = none) (ty : TypeId) (x : Operand) (ho : o.op = .load ty x) (b off : Nat) (hx : a.eval x = .pointer (some ⟨b, off, none⟩)) (Z : List Int) (hb : w.rangeAt b off (Z.map (Value.int .u64))) (n : Nat) (e : TypeId) (hu : P.underlying ty = some (.array n e)) (hi : (P.info? ty).map (·.size) = some Z.length)
    (h : wpList P ops Q rest (a.put o.dst (.agg (arrU Z))) w) : wpList P ops Q (o :: rest) a w :=
  wpList_load_mid hg ty x ho b off hx (Z.map (Value.int .u64)) (.array n e) hb hu rfl (by rw [hi, List.length_map]) h
/-- An element of an array of numbers, by value; an array out of an array of arrays. -/
theorem run_index_arr (w : World) (t e : TypeId) (n : Nat) (Z : List Int) (k : IntKind) (i : Nat) (z : Int) (h : P.underlying t = some (.array n e)) (he : (isAgg e).run P w = .ok false w) (hs : (sizeOf e).run P w = .ok 1 w) (h1 : i < n) (hz : Z[i]? = some z) :
    (Instr.index t (.agg (arrU Z)) (.int k i)).run P w = .ok (.int .u64 z) w :=
  run_index_one w t e n (arrU Z) k i _ h he hs (by omega) (by omega) (by rw [Int.toNat_natCast]; exact arrU_at hz)
theorem arrU_part (Z : List Int) (i n : Nat) : (arrU Z).extract i (i + n) = arrU ((Z.drop i).take n) := by
  apply Array.toList_inj.1
  simp [arrU, List.extract, List.map_drop, List.map_take]
theorem run_index_arrs (w : World) (t e : TypeId) (n s : Nat) (Z : List Int) (k : IntKind) (i : Nat) (h : P.underlying t = some (.array n e)) (he : (isAgg e).run P w = .ok true w) (hs : (sizeOf e).run P w = .ok s w) (h1 : i < n) :
    (Instr.index t (.agg (arrU Z)) (.int k i)).run P w = .ok (.agg (arrU ((Z.drop (i * s)).take s))) w := by
  rw [run_index_agg w t e n s (arrU Z) k i h he hs (by omega) (by omega), Int.toNat_natCast, arrU_part]
theorem wpList_store_arr (hg : o.guard = none) (ty : TypeId) (x y : Operand) (ho : o.op = .store ty x y) (g : Nat) (Z Z' : List Int) (hx : a.eval x = .pointer (some ⟨g, 0, none⟩)) (hy : a.eval y = .agg (arrU Z')) (hb : w.heap[g]? = some (aobj ty Z)) (hl : Z.length = Z'.length) (hi : (P.info? ty).map (·.size) = some Z'.length)
    (h : ∀ w', w'.heap[g]? = some (aobj ty Z') → Frm (· = g) w w' → w'.heap.size = w.heap.size → wpList P ops Q rest (a.put o.dst undef) w') : wpList P ops Q (o :: rest) a w :=
  wpList_store_mid hg ty x y ho g 0 (arrU Z') hx hy (by rw [arrU_size, ← hl]; exact aobj_there hb) (by rw [hi, arrU_size]) (arrU_one Z')
    (h _ (aobj_puts hb hl) (frm_setCells (F := (· = g)) (b := g) rfl _ _ _ _ (Frm.refl _ _)) (size_setCells _ _ _ _))
/-- One operation alone may come up, in a region that draws its order, under a condition on worlds. -/
theorem wpAnyH_one {md : Region.Mode} {S : World → Prop} {fuel : Nat} {listed : Array Bool} {i : Nat} (hr : Region.ready md ops listed = [i]) (ho : ops[i]? = some o) (hg : o.guard = none)
    (h : o.wp P a w (fun a' w' => S w' ∧ wpAnyH P md ops Q S fuel (listed.setIfInBounds i true) a' w') Q) : wpAnyH P md ops Q S (fuel + 1) listed a w :=
  wpAnyH_all hr (by simp) fun j hj => by
    rw [List.mem_singleton] at hj
    subst hj
    unfold wpOp
    rw [ho]
    simp only [Region.wanted, hg, if_true]
    exact .inl h
theorem wpList_alloc_arr (hg : o.guard = none) (ty : TypeId) (ho : o.op = .alloc ty) (g : Nat) (hG : w.heap.size = g) (Z : List Int) (hrun : (Instr.alloc ty true (.tuple #[])).run P w = .ok (.pointer (some ⟨w.heap.size, 0, none⟩)) (w.alloc (aobj ty Z)))
    (h : ∀ w', w'.heap[g]? = some (aobj ty Z) → Below g w w' → w'.heap.size = g + 1 → wpList P ops Q rest (a.put o.dst (.pointer (some ⟨g, 0, none⟩))) w') : wpList P ops Q (o :: rest) a w := by
  subst hG
  refine wpList_plain hg fun K' hK' => ?_
  unfold Oper.wp
  simp [execOp, ho, hrun, Result.andThen]
  exact hK' _ _ (h _ (heap_alloc_at w _) (below_alloc w _) (by simp))
theorem wpList_box_arr (hg : o.guard = none) (ty : TypeId) (x : Operand) (ho : o.op = .box ty x) (g : Nat) (hG : w.heap.size = g) (Z : List Int) (hx : a.eval x = .agg (arrU Z))
    (h : ∀ w', w'.heap[g]? = some (aobj ty Z) → Below g w w' → w'.heap.size = g + 1 → wpList P ops Q rest (a.put o.dst (.pointer (some ⟨g, 0, none⟩))) w') : wpList P ops Q (o :: rest) a w := by
  subst hG
  have hrun : (Instr.box ty (.agg (arrU Z))).run P w = .ok (.pointer (some ⟨w.heap.size, 0, none⟩)) (w.alloc (aobj ty Z)) := by
    simp [Instr.box, newVar, newRow, Value.cells, aobj]
  refine wpList_plain hg fun K' hK' => ?_
  unfold Oper.wp
  simp [execOp, ho, hx, hrun, Result.andThen]
  exact hK' _ _ (h _ (heap_alloc_at w _) (below_alloc w _) (by simp))
end
end Go.Proofs.Ytpheifdneafkhaa
