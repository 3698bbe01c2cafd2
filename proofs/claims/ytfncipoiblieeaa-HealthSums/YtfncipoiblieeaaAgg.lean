/- Structs and arrays by value, of whatever cells, behind a list that nothing opens: a new one, box, build, load, store (whole, or a part), an element, a function's result. No package's types. -/
import Derived.Test.YtfncipoiblieeaaCells
namespace Go.Proofs.Ytfncipoiblieeaa
set_option linter.unusedVariables false
open Go.ChangeShapes Go.WideShapes Go.ChangeAt Go.RowKit

/-- Cells by value. -/
def aggV (vs : List Value) : Array Value := ⟨vs⟩
/-- The block of such a value. -/
def vobj (ty : TypeId) (vs : List Value) : Obj := .cells (aggV vs) ty
/-- Each is one cell. -/
def Ones (vs : List Value) : Prop := ∀ v ∈ vs, v.oneCell' = true
theorem aggV_list (vs : List Value) : (aggV vs).toList = vs := rfl
theorem aggV_size (vs : List Value) : (aggV vs).size = vs.length := rfl
theorem aggV_of (c : Array Value) : c = aggV c.toList := rfl
theorem aggV_inj {a b : List Value} (h : aggV a = aggV b) : a = b := congrArg Array.toList h
theorem aggV_one {vs : List Value} (h : Ones vs) : (aggV vs).all (·.oneCell') = true := all_oneCell_toArray h
/-- A list with others laid over it from place o on. -/
def putV : List Value → Nat → List Value → List Value
  | Z, _, [] => Z
  | Z, o, v :: r => putV (Z.set o v) (o + 1) r
theorem putV_len : ∀ (vs Z : List Value) (o : Nat), (putV Z o vs).length = Z.length
  | [], _, _ => rfl
  | v :: r, Z, o => by rw [putV, putV_len r]; simp
theorem putV_out : ∀ (vs Z : List Value) (o j : Nat), j < o ∨ o + vs.length ≤ j → (putV Z o vs)[j]? = Z[j]?
  | [], _, _, _, _ => rfl
  | v :: r, Z, o, j, h => by
    simp at h
    rw [putV, putV_out r _ _ _ (by omega), List.getElem?_set_ne (by omega)]
theorem putV_in : ∀ (vs Z : List Value) (o j : Nat), j < vs.length → o + j < Z.length → (putV Z o vs)[o + j]? = vs[j]?
  | [], _, _, _, h, _ => by simp at h
  | v :: r, Z, o, 0, h, h' => by
    rw [putV, putV_out r _ _ _ (by omega), Nat.add_zero, List.getElem?_set_self (by omega)]
    rfl
  | v :: r, Z, o, j + 1, h, h' => by
    have := putV_in r (Z.set o v) (o + 1) j (by simpa using h) (by simp; omega)
    rw [putV, show o + (j + 1) = o + 1 + j by omega, this]
    rfl
theorem putV_whole {Z Z' : List Value} (hl : Z.length = Z'.length) : putV Z 0 Z' = Z' := by
  apply List.ext_getElem?
  intro i
  by_cases hi : i < Z'.length
  · have := putV_in Z' Z 0 i hi (by omega)
    rwa [Nat.zero_add] at this
  · rw [List.getElem?_eq_none (by rw [putV_len]; omega), List.getElem?_eq_none (by omega)]
theorem size_setCellsV (b : Nat) : ∀ (vs : List Value) (o : Nat) (w : World), (w.setCells b o vs).heap.size = w.heap.size
  | [], _, _ => rfl
  | v :: r, o, w => by rw [World.setCells, size_setCellsV b r]; exact heap_set_size _ _ _
section
variable {w w' : World} {g j : Nat} {ty : TypeId} {vs us : List Value} {v : Value}
theorem vobj_cell (h : w.heap[g]? = some (vobj ty vs)) (hz : vs[j]? = some v) : w.cell? ⟨g, j, none⟩ = some v := by
  rw [cell_of h]; simpa [aggV] using hz
theorem vobj_frozen (h : w.heap[g]? = some (vobj ty vs)) (j : Nat) : w.frozen? ⟨g, j, none⟩ = false := frozen_of h j
theorem vobj_range (h : w.heap[g]? = some (vobj ty vs)) : w.rangeAt g 0 vs := fun j v hv => by
  rw [Nat.zero_add]; exact vobj_cell h hv
theorem vobj_there (h : w.heap[g]? = some (vobj ty vs)) (o n : Nat) (hn : o + n ≤ vs.length) : w.there g o n := fun j hj =>
  ⟨by rw [vobj_cell h (List.getElem?_eq_getElem (by omega))]; rfl, vobj_frozen h _⟩
theorem vobj_set (h : w.heap[g]? = some (vobj ty vs)) (j : Nat) (v : Value) : (w.setCell ⟨g, j, none⟩ v).heap[g]? = some (vobj ty (vs.set j v)) := by
  rw [heap_set_same h]; simp [vobj, aggV]
theorem vobj_puts : ∀ (us vs : List Value) (o : Nat) (w : World), w.heap[g]? = some (vobj ty vs) → (w.setCells g o us).heap[g]? = some (vobj ty (putV vs o us))
  | [], _, _, _, h => h
  | v :: r, vs, o, w, h => by
    have h1 : (w.setCell ⟨g, o, none⟩ v).heap[g]? = some (vobj ty (vs.set o v)) := by
      rw [heap_set_same h]; simp [vobj, aggV]
    exact vobj_puts r _ _ _ h1
end

section
variable {P : Program} {ops : Array Oper} {rest : List Oper} {o : Oper} {a : Act} {w : World} {Q : Exit → Act → World → Prop}
theorem run_load_agg (w : World) (ty : TypeId) (g : Nat) (vs : List Value) (d : TypeDesc) (hb : w.heap[g]? = some (vobj ty vs)) (hu : P.underlying ty = some d) (hd : d.isRow = true) (hi : (P.info? ty).map (·.size) = some vs.length) :
    (loadVar ty ⟨g, 0, none⟩).run P w = .ok (.agg (aggV vs)) w :=
  run_loadVar_mid w g 0 ty vs d (vobj_range hb) hu hd hi
theorem run_loadAt_agg (w : World) (ty : TypeId) (g : Nat) (vs : List Value) (d : TypeDesc) (hb : w.heap[g]? = some (vobj ty vs)) (hu : P.underlying ty = some d) (hd : d.isRow = true) (hi : (P.info? ty).map (·.size) = some vs.length) :
    (Instr.loadAt ty (.pointer (some ⟨g, 0, none⟩))).run P w = .ok (.agg (aggV vs)) w :=
  run_loadAt_mid w g 0 ty vs d (vobj_range hb) hu hd hi
/-- A result that lies in a cell; one, and two in slots. -/
theorem results_agg {fn : Func} {tmps : Array Value} {t : TypeId} {c : Tmp} {p : Addr} {v : Value} (hr : fn.results = #[.cell c t]) (ha : tmps.getD c undef = .pointer (some p)) (hl : (loadVar t p).run P w = .ok v w) : (results fn tmps).run P w = .ok v w := by
  unfold results
  rw [hr]
  rw [Array.getD_eq_getD_getElem?] at ha
  simp [asAddr, ha, hl]
theorem results_agg1 {fn : Func} {tmps : Array Value} {t : TypeId} {c d : Tmp} {p : Addr} {v x : Value} (hr : fn.results = #[.cell c t, .tmp d]) (ha : tmps.getD c undef = .pointer (some p)) (hl : (loadVar t p).run P w = .ok v w) (hx : tmps.getD d undef = x) :
    (results fn tmps).run P w = .ok (.tuple #[v, x]) w := by
  unfold results
  rw [hr]
  rw [Array.getD_eq_getD_getElem?] at ha hx
  simp [asAddr, ha, hl, hx]
theorem results_agg2 {fn : Func} {tmps : Array Value} {t : TypeId} {c d e : Tmp} {p : Addr} {v x y : Value} (hr : fn.results = #[.cell c t, .tmp d, .tmp e]) (ha : tmps.getD c undef = .pointer (some p)) (hl : (loadVar t p).run P w = .ok v w) (hx : tmps.getD d undef = x) (hy : tmps.getD e undef = y) :
    (results fn tmps).run P w = .ok (.tuple #[v, x, y]) w := by
  unfold results
  rw [hr]
  rw [Array.getD_eq_getD_getElem?] at ha hx hy
  simp [asAddr, ha, hl, hx, hy]
theorem wpList_load_agg (hg : o.guard = none) (ty : TypeId) (x : Operand) (ho : o.op = .load ty x) (g : Nat) (hx : a.eval x = .pointer (some ⟨g, 0, none⟩)) (vs : List Value) (hb : w.heap[g]? = some (vobj ty vs)) (d : TypeDesc) (hu : P.underlying ty = some d) (hd : d.isRow = true) (hi : (P.info? ty).map (·.size) = some vs.length)
    (h : wpList P ops Q rest (a.put o.dst (.agg (aggV vs))) w) : wpList P ops Q (o :: rest) a w :=
  wpList_load_mid hg ty x ho g 0 hx vs d (vobj_range hb) hu hd hi h
/-- The same behind a guard that holds. -/
theorem wpList_load_aggG (hw : Region.wanted o (yielded ops a.tmps) = true) (ty : TypeId) (x : Operand) (ho : o.op = .load ty x) (g : Nat) (hx : a.eval x = .pointer (some ⟨g, 0, none⟩)) (vs : List Value) (hb : w.heap[g]? = some (vobj ty vs)) (d : TypeDesc) (hu : P.underlying ty = some d) (hd : d.isRow = true) (hi : (P.info? ty).map (·.size) = some vs.length)
    (h : wpList P ops Q rest (a.put o.dst (.agg (aggV vs))) w) : wpList P ops Q (o :: rest) a w :=
  BigFrame.wpList_want hw fun K hK => wp_load_mid ty x ho g 0 hx vs d (vobj_range hb) hu hd hi (hK _ _ h)
/-- Stored into a part of a block, or into all of it. -/
theorem wpList_store_part (hg : o.guard = none) (ty : TypeId) (x y : Operand) (ho : o.op = .store ty x y) (g off : Nat) (bt : TypeId) (vs us : List Value) (hx : a.eval x = .pointer (some ⟨g, off, none⟩)) (hy : a.eval y = .agg (aggV us)) (hb : w.heap[g]? = some (vobj bt vs)) (hl : off + us.length ≤ vs.length) (hi : (P.info? ty).map (·.size) = some us.length) (h1 : Ones us)
    (h : ∀ w', w'.heap[g]? = some (vobj bt (putV vs off us)) → Frm (· = g) w w' → w'.heap.size = w.heap.size → wpList P ops Q rest (a.put o.dst undef) w') : wpList P ops Q (o :: rest) a w :=
  wpList_store_mid hg ty x y ho g off (aggV us) hx hy (by rw [aggV_size]; exact vobj_there hb _ _ hl) (by rw [hi, aggV_size]) (aggV_one h1)
    (h _ (vobj_puts us vs off w hb) (frm_setCells (F := (· = g)) (b := g) rfl _ _ _ _ (Frm.refl _ _)) (size_setCellsV _ _ _ _))
theorem wpList_store_agg (hg : o.guard = none) (ty : TypeId) (x y : Operand) (ho : o.op = .store ty x y) (g : Nat) (vs us : List Value) (hx : a.eval x = .pointer (some ⟨g, 0, none⟩)) (hy : a.eval y = .agg (aggV us)) (hb : w.heap[g]? = some (vobj ty vs)) (hl : vs.length = us.length) (hi : (P.info? ty).map (·.size) = some us.length) (h1 : Ones us)
    (h : ∀ w', w'.heap[g]? = some (vobj ty us) → Frm (· = g) w w' → w'.heap.size = w.heap.size → wpList P ops Q rest (a.put o.dst undef) w') : wpList P ops Q (o :: rest) a w :=
  wpList_store_part hg ty x y ho g 0 ty vs us hx hy hb (by omega) hi h1 (by rw [putV_whole hl]; exact h)
/-- One cell of a block, stored. -/
theorem run_storeVar_one (w : World) (g j : Nat) (ty : TypeId) (v : Value) (hc : v.cells = #[v]) (ht : w.there g j 1) (hi : (P.info? ty).map (·.size) = some 1) (h1 : v.oneCell' = true) :
    (storeVar ty ⟨g, j, none⟩ v).run P w = .ok () (w.setCells g j [v]) := by
  have e : storeVar ty ⟨g, j, none⟩ v = storeVar ty ⟨g, j, none⟩ (.agg #[v]) := by
    unfold storeVar
    rw [hc]
    rfl
  rw [e]
  exact run_storeVar_mid w g j ty #[v] ht hi (by simpa using h1)
theorem wpList_store_one (hg : o.guard = none) (ty : TypeId) (x y : Operand) (ho : o.op = .store ty x y) (g j : Nat) (bt : TypeId) (vs : List Value) (v : Value) (hx : a.eval x = .pointer (some ⟨g, j, none⟩)) (hy : a.eval y = v) (hb : w.heap[g]? = some (vobj bt vs)) (hj : j < vs.length) (hi : (P.info? ty).map (·.size) = some 1) (hc : v.cells = #[v]) (h1 : v.oneCell' = true)
    (h : ∀ w', w'.heap[g]? = some (vobj bt (vs.set j v)) → Frm (· = g) w w' → w'.heap.size = w.heap.size → wpList P ops Q rest (a.put o.dst undef) w') : wpList P ops Q (o :: rest) a w := by
  refine wpList_plain hg fun K' hK' => ?_
  unfold Oper.wp
  simp only [execOp, ho, hx, hy, Instr.storeAt, Instr.sureAddr, Sem.run_bind, Sem.run_pure, Result.andThen_ok, run_storeVar_one w g j ty v hc (vobj_there hb j 1 (by omega)) hi h1]
  exact hK' _ _ (h _ (vobj_puts [v] vs j w hb) (frm_setCells (F := (· = g)) (b := g) rfl _ _ _ _ (Frm.refl _ _)) (size_setCellsV _ _ _ _))
theorem wpList_alloc_agg (hg : o.guard = none) (ty : TypeId) (ho : o.op = .alloc ty) (g : Nat) (hG : w.heap.size = g) (vs : List Value) (hrun : (Instr.alloc ty true (.tuple #[])).run P w = .ok (.pointer (some ⟨w.heap.size, 0, none⟩)) (w.alloc (vobj ty vs)))
    (h : ∀ w', w'.heap[g]? = some (vobj ty vs) → Below g w w' → w'.heap.size = g + 1 → wpList P ops Q rest (a.put o.dst (.pointer (some ⟨g, 0, none⟩))) w') : wpList P ops Q (o :: rest) a w := by
  subst hG
  refine wpList_plain hg fun K' hK' => ?_
  unfold Oper.wp
  simp [execOp, ho, hrun, Result.andThen]
  exact hK' _ _ (h _ (heap_alloc_at w _) (below_alloc w _) (by simp))
theorem wpList_box_agg (hg : o.guard = none) (ty : TypeId) (x : Operand) (ho : o.op = .box ty x) (g : Nat) (hG : w.heap.size = g) (vs : List Value) (hx : a.eval x = .agg (aggV vs))
    (h : ∀ w', w'.heap[g]? = some (vobj ty vs) → Below g w w' → w'.heap.size = g + 1 → wpList P ops Q rest (a.put o.dst (.pointer (some ⟨g, 0, none⟩))) w') : wpList P ops Q (o :: rest) a w := by
  subst hG
  have hrun : (Instr.box ty (.agg (aggV vs))).run P w = .ok (.pointer (some ⟨w.heap.size, 0, none⟩)) (w.alloc (vobj ty vs)) := by
    simp [Instr.box, newVar, newRow, Value.cells, vobj]
  refine wpList_plain hg fun K' hK' => ?_
  unfold Oper.wp
  simp [execOp, ho, hx, hrun, Result.andThen]
  exact hK' _ _ (h _ (heap_alloc_at w _) (below_alloc w _) (by simp))
theorem wpList_build_agg (hg : o.guard = none) (t : TypeId) (parts : Array (Nat × Operand)) (hop : o.op = .build t parts) (vs : List Value) (hrun : (Instr.build t (parts.map fun (i, x) => (i, a.eval x))).run P w = .ok (.agg (aggV vs)) w)
    (h : wpList P ops Q rest (a.put o.dst (.agg (aggV vs))) w) : wpList P ops Q (o :: rest) a w := by
  refine wpList_plain hg fun K' hK' => ?_
  unfold Oper.wp
  simp [execOp, hop, hrun, Result.andThen]
  exact hK' _ _ h
/-- An element that is itself of many cells, by value. -/
theorem aggV_part (vs : List Value) (i n : Nat) : (aggV vs).extract i (i + n) = aggV ((vs.drop i).take n) := by
  apply Array.toList_inj.1
  simp [aggV, List.extract]
theorem run_index_aggs (w : World) (t e : TypeId) (n s : Nat) (vs : List Value) (k : IntKind) (i : Nat) (h : P.underlying t = some (.array n e)) (he : (isAgg e).run P w = .ok true w) (hs : (sizeOf e).run P w = .ok s w) (h1 : i < n) :
    (Instr.index t (.agg (aggV vs)) (.int k i)).run P w = .ok (.agg (aggV ((vs.drop (i * s)).take s))) w := by
  rw [run_index_agg w t e n s (aggV vs) k i h he hs (by omega) (by omega), Int.toNat_natCast, aggV_part]
end
end Go.Proofs.Ytfncipoiblieeaa
