/- Slices of records (each so many plain cells): one that a call itself made (OwnR), and any that is read (RowR); append, parts of them. No package's types. -/
import Derived.Test.YtfncipoiblieeaaBlk
import Derived.Maps.OwnRows
import Derived.Laws.OwnMore
import Derived.Maps.AppendAt
import Derived.OwnWalk
import Derived.Handy
namespace Go.Proofs.Ytfncipoiblieeaa
set_option linter.unusedVariables false
open Go.ChangeShapes Go.WideShapes Go.ChangeAt Go.RowKit

/-- Records of one kind, each as a row of plain cells. -/
structure Rec (α : Type) where
  cells : α → List Value
  size : Nat
  pos : 0 < size
  len : ∀ a, (cells a).length = size
  one : ∀ a, ∀ u ∈ cells a, u.oneCell' = true
section
variable {α : Type} (R : Rec α)
def Rec.flat : List α → List Value
  | [] => []
  | a :: V => R.cells a ++ Rec.flat V
theorem Rec.flat_length : ∀ V, (R.flat V).length = V.length * R.size
  | [] => by simp [Rec.flat]
  | a :: V => by rw [Rec.flat, List.length_append, R.len, Rec.flat_length V, List.length_cons, Nat.succ_mul, Nat.add_comm]
theorem Rec.flat_append : ∀ U V, R.flat (U ++ V) = R.flat U ++ R.flat V
  | [], V => rfl
  | a :: U, V => by rw [List.cons_append, Rec.flat, Rec.flat, Rec.flat_append U V, List.append_assoc]
theorem Rec.flat_one : ∀ V, ∀ u ∈ R.flat V, u.oneCell' = true
  | a :: V, u, h => by
    rw [Rec.flat] at h
    rcases List.mem_append.1 h with h | h
    · exact R.one a u h
    · exact Rec.flat_one V u h
theorem Rec.flat_at : ∀ {V : List α} {i k : Nat} {a : α} {u : Value}, V[i]? = some a → (R.cells a)[k]? = some u → (R.flat V)[i * R.size + k]? = some u
  | x :: V, 0, k, a, u, h, hu => by
    obtain rfl : x = a := by simpa using h
    rw [Rec.flat, Nat.zero_mul, Nat.zero_add, List.getElem?_append_left (List.getElem?_eq_some_iff.1 hu).1]
    exact hu
  | x :: V, i + 1, k, a, u, h, hu => by
    have h' : V[i]? = some a := by simpa using h
    have ih := Rec.flat_at h' hu
    rw [Rec.flat, List.getElem?_append_right (by rw [R.len, Nat.succ_mul]; omega), R.len, show (i + 1) * R.size + k - R.size = i * R.size + k by rw [Nat.succ_mul]; omega]
    exact ih
  | [], i, k, a, u, h, _ => by simp at h

/-- A slice that reads as the records V. -/
def RowR (w : World) (A : Option Addr) (len : Nat) (V : List α) : Prop :=
  V.length = len ∧ len ≤ maxLen ∧ (len = 0 ∨ ∃ b off, A = some ⟨b, off, none⟩ ∧ b < w.heap.size ∧ ∀ j u, (R.flat V)[j]? = some u → w.cell? ⟨b, off + j, none⟩ = some u)
/-- A slice of records that was made since the world had 'base' blocks. -/
def OwnR (w : World) (base : Nat) (e : TypeId) (v : Value) (V : List α) : Prop := w.ownsRow base e R.size v V.length (R.flat V) ∧ V.length ≤ maxLen
end
section
variable {α : Type} {R : Rec α} {w w' : World} {base : Nat} {e t : TypeId} {v : Value} {V U : List α} {A : Option Addr} {n m c : Nat}

theorem RowR.length (h : RowR R w A n V) : V.length = n := h.1
theorem RowR.nil (A : Option Addr) : RowR R w A 0 ([] : List α) := ⟨rfl, by decide, .inl rfl⟩
theorem RowR.frm {F : Nat → Prop} (h : RowR R w A n V) (hf : Frm F w w') (hF : ∀ b off, A = some ⟨b, off, none⟩ → ¬ F b) : RowR R w' A n V := by
  obtain ⟨h1, h2, h3⟩ := h
  refine ⟨h1, h2, ?_⟩
  rcases h3 with h0 | ⟨b, off, rfl, hlt, hc⟩
  · exact .inl h0
  · exact .inr ⟨b, off, rfl, Nat.lt_of_lt_of_le hlt hf.size, fun j u hu => (World.cell?_of_block (w := w) (hf.block b hlt (hF b off rfl))).trans (hc j u hu)⟩
theorem RowR.later (h : RowR R w A n V) (hb : Below w.heap.size w w') : RowR R w' A n V := h.frm (F := fun _ => False) (Frm.of_below hb) (fun _ _ _ => id)
theorem RowR.ali (h : RowR R w A n V) (ha : Ali w w') : RowR R w' A n V := h.later (ali_below ha)
theorem RowR.at_ (h : RowR R w A n V) {i : Nat} (hi : i < n) : ∃ b off a, A = some ⟨b, off, none⟩ ∧ V[i]? = some a ∧ b < w.heap.size ∧ ∀ k u, (R.cells a)[k]? = some u → w.cell? ⟨b, off + i * R.size + k, none⟩ = some u := by
  rcases h.2.2 with h0 | ⟨b, off, hA, hlt, hc⟩
  · omega
  · have hV : V[i]? = some (V[i]'(by rw [h.1]; exact hi)) := List.getElem?_eq_getElem _
    exact ⟨b, off, _, hA, hV, hlt, fun k u hu => by rw [Nat.add_assoc]; exact hc _ u (R.flat_at hV hu)⟩
theorem RowR.take (h : RowR R w A n (U ++ V)) (hm : U.length = m) : RowR R w A m U := by
  obtain ⟨h1, h2, h3⟩ := h
  rw [List.length_append] at h1
  refine ⟨hm, by omega, ?_⟩
  rcases h3 with h0 | ⟨b, off, hA, hlt, hc⟩
  · exact .inl (by omega)
  · exact .inr ⟨b, off, hA, hlt, fun j u hu => hc j u (by rw [R.flat_append, List.getElem?_append_left (List.getElem?_eq_some_iff.1 hu).1]; exact hu)⟩
theorem RowR.drop {b off : Nat} (h : RowR R w (some ⟨b, off, none⟩) n (U ++ V)) (hU : U.length = m) (hc : n ≤ c) {k : Nat} (hk : n = m + k) : RowR R w (if c = m then some ⟨b, off, none⟩ else some ⟨b, off + m * R.size, none⟩) k V := by
  obtain ⟨h1, h2, h3⟩ := h
  rw [List.length_append] at h1
  refine ⟨by omega, by omega, ?_⟩
  by_cases h0 : k = 0
  · exact .inl h0
  · rw [if_neg (by omega)]
    rcases h3 with h3 | ⟨b', off', e, hlt, hcs⟩
    · omega
    · injection e with e
      injection e with e1 e2
      subst e1 e2
      refine .inr ⟨b, off + m * R.size, rfl, hlt, fun j u hu => ?_⟩
      have hl := R.flat_length U
      rw [hU] at hl
      rw [Nat.add_assoc]
      refine hcs (m * R.size + j) u ?_
      rw [R.flat_append, List.getElem?_append_right (by omega), hl, Nat.add_sub_cancel_left]
      exact hu
/-- A new block with all of its records. -/
theorem RowR.new (w : World) (V : List α) (e : TypeId) {cs : Array Value} (hcs : cs.toList = R.flat V) (hn : V.length = n) (hm : n ≤ maxLen) : RowR R (w.alloc (.cells cs e)) (some ⟨w.heap.size, 0, none⟩) n V := by
  refine ⟨hn, hm, .inr ⟨w.heap.size, 0, rfl, by simp, fun j u hu => ?_⟩⟩
  rw [cell_of (heap_alloc_at w _), Nat.zero_add, ← Array.getElem?_toList, hcs]
  exact hu
theorem RowR.one (w : World) (a : α) (e : TypeId) {cs : Array Value} (hcs : cs.toList = R.cells a) : RowR R (w.alloc (.cells cs e)) (some ⟨w.heap.size, 0, none⟩) 1 [a] := RowR.new w [a] e (by rw [hcs, Rec.flat, Rec.flat, List.append_nil]) rfl (by decide)

theorem OwnR.nil (w : World) (base : Nat) (e : TypeId) : OwnR R w base e (.slice none 0 0) ([] : List α) := ⟨World.ownsRow_nil _ _ _ _, by simp⟩
theorem OwnR.empty (w : World) (e : TypeId) (hb : base ≤ w.heap.size) : OwnR R (w.alloc (.cells #[] e)) base e (.slice (some ⟨w.heap.size, 0, none⟩) 0 0) ([] : List α) := ⟨World.ownsRow_made w #[] 0 hb (by decide) (by simp), by simp⟩
theorem OwnR.row' (h : OwnR R w base e v V) : ∃ A n c, v = .slice A n c ∧ RowR R w A n V ∧ Hid (V.length = n) ∧ n ≤ c ∧ c ≤ maxLen := by
  rcases h.1.2 with ⟨rfl, h0⟩ | ⟨g, cap, cur, rfl, hb, hg, hnc, hcm, hcs, htake⟩
  · exact ⟨none, 0, 0, rfl, ⟨h0, by decide, .inl rfl⟩, Lib.hid h0, Nat.le_refl _, by decide⟩
  · refine ⟨_, _, cap, rfl, ⟨rfl, h.2, .inr ⟨g, 0, rfl, heap_lt hg, fun j u hu => ?_⟩⟩, Lib.hid rfl, hnc, hcm⟩
    have hj := (List.getElem?_eq_some_iff.1 hu).1
    rw [R.flat_length] at hj
    rw [← htake, List.getElem?_take_of_lt hj] at hu
    rw [cell_of hg]
    simpa using hu
theorem OwnR.row (h : OwnR R w base e (.slice A n c) V) : RowR R w A n V ∧ n ≤ c ∧ c ≤ maxLen := by
  obtain ⟨A', n', c', e, h1, h2, h3, h4⟩ := h.row'
  injection e with e1 e2 e3
  subst e1 e2 e3
  exact ⟨h1, h3, h4⟩
theorem OwnR.block (h : OwnR R w base e v V) {g : Nat} (hg : v.ownBlock = some g) : ∃ cs, w.heap[g]? = some (.cells cs e (0, 0)) := by
  rcases h.1.2 with ⟨rfl, _⟩ | ⟨g', cap, cur, rfl, _, hh, _⟩
  · cases hg
  · cases hg
    exact ⟨cur, hh⟩
theorem OwnR.frm {F : Nat → Prop} (h : OwnR R w base e v V) (hf : Frm F w w') (hF : ∀ j, F j → ∀ cs, w.heap[j]? ≠ some (.cells cs e (0, 0))) : OwnR R w' base e v V := by
  refine ⟨⟨h.1.1, ?_⟩, h.2⟩
  rcases h.1.2 with h0 | ⟨g, cap, cur, hv, hb, hh, hr⟩
  · exact .inl h0
  · exact .inr ⟨g, cap, cur, hv, hb, by rw [hf.block g (heap_lt hh) (fun hc => hF g hc cur hh)]; exact hh, hr⟩
theorem OwnR.below (h : OwnR R w base e v V) (hb : Below w.heap.size w w') : OwnR R w' base e v V := h.frm (F := fun _ => False) (Frm.of_below hb) (fun _ hc => hc.elim)
theorem OwnR.ali (h : OwnR R w base e v V) (ha : Ali w w') : OwnR R w' base e v V := h.below (ali_below ha)
theorem OwnR.alloc (h : OwnR R w base e v V) (o : Obj) : OwnR R (w.alloc o) base e v V := h.below (below_alloc w o)
theorem OwnR.mono (h : OwnR R w base e v V) {base' : Nat} (hb : base' ≤ base) : OwnR R w base' e v V := by
  refine ⟨⟨h.1.1, ?_⟩, h.2⟩
  rcases h.1.2 with h0 | ⟨g, cap, cur, hv, hb', hr⟩
  · exact .inl h0
  · exact .inr ⟨g, cap, cur, hv, by omega, hr⟩
theorem OwnR.low (h : OwnR R w base e v V) : ∀ g, v.ownBlock = some g → base ≤ g := fun g hg => (h.1.lt g hg).1

variable {P : Program}
/-- append, run: onto records of the call's own, of any that are read. -/
theorem run_appR {i : TypeInfo} {z : Value} {bytes : Nat} {ty : TypeId} (ht : P.underlying t = some (.slice e)) (hi : P.info? e = some i) (hz : i.zero = some z) (hs : i.size = R.size) (hb : i.bytes = bytes) (hc : z.cells.size = R.size)
    (own : OwnR R w base e v V) (src : RowR R w A m U) (hle : V.length + m ≤ 1048576) (hby : bytes ≤ 65536) (hbase : base ≤ w.heap.size) :
    ∃ v' w', (Builtin.append_ #[t, t] ty #[v, .slice A m c]).run P w = .ok v' w' ∧ OwnR R w' base e v' (V ++ U) ∧ w.grownBy w' v.ownBlock ∧ (v'.ownBlock = v.ownBlock ∨ v'.ownBlock = some w.heap.size) := by
  have hmax : (V ++ U).length ≤ maxLen := by rw [List.length_append, src.1]; unfold maxLen; omega
  by_cases hm : m = 0
  · subst hm
    have hU : U = [] := List.eq_nil_of_length_eq_zero src.1
    subst hU
    refine ⟨v, w, ?_, by simpa using own, ⟨rfl, rfl, rfl, Nat.le_refl _, fun _ _ _ => rfl⟩, .inl rfl⟩
    rcases own.1.2 with ⟨rfl, h0⟩ | ⟨g, cap, cur, rfl, _, _, hnc, _⟩
    · cases A <;> simp [Builtin.append_, run_underlying ht, sizeOf, typeInfo, hi, Builtin.lenOf, Builtin.firstCells, loadCells, loadCellsFrom]
    · cases A <;> simp [Builtin.append_, run_underlying ht, sizeOf, typeInfo, hi, Builtin.lenOf, Builtin.firstCells, hnc, storeCells, loadCells, loadCellsFrom]
  · rcases src.2.2 with h0 | ⟨b, off, rfl, hlt, hcs⟩
    · omega
    · have hbig : (V.length + m) * bytes ≤ 140737488355328 := by
        have := Nat.mul_le_mul hle hby
        omega
      obtain ⟨v', w', hr, h2, h3, _, h5⟩ := run_append_own_at (P := P) w base t ty e i z R.size bytes ht hi hz hs hb hc R.pos v V.length (R.flat V) own.1 ⟨b, off, none⟩ m c (R.flat U) (by rw [R.flat_length, src.1])
        (fun j u hu => by rw [add_plain]; exact hcs j u hu) (R.flat_one U) (by unfold maxLen; omega) hbig hbase
      refine ⟨v', w', hr, ⟨?_, hmax⟩, h3, h5⟩
      rw [List.length_append, src.1, R.flat_append]
      exact h2
/-- append in a straight walk. -/
theorem wpList_appR {ops : Array Oper} {rest : List Oper} {o : Oper} {a : Act} {Q : Exit → Act → World → Prop} (hg : o.guard = none) (s x : Operand)
    (ho : o.op = .call { callee := .builtin .append, args := #[s, x], argTypes := #[t, t] }) {i : TypeInfo} {z : Value} {bytes : Nat} (ht : P.underlying t = some (.slice e)) (hi : P.info? e = some i) (hz : i.zero = some z) (hs : i.size = R.size) (hb : i.bytes = bytes) (hc : z.cells.size = R.size) (hby : bytes ≤ 65536)
    (hsv : a.eval s = v) (hxv : a.eval x = .slice A m c) (own : OwnR R w base e v V) (src : RowR R w A m U) (hle : V.length + m ≤ 1048576) (hbase : base ≤ w.heap.size)
    (h : ∀ v' w', OwnR R w' base e v' (V ++ U) → w.grownBy w' v.ownBlock → (v'.ownBlock = v.ownBlock ∨ v'.ownBlock = some w.heap.size) → wpList P ops Q rest (a.put o.dst v') w') : wpList P ops Q (o :: rest) a w := by
  refine wpList_plain hg fun _ hK => ?_
  obtain ⟨v', w', hr, h2, h3, h4⟩ := run_appR (ty := o.type) (c := c) ht hi hz hs hb hc own src hle hby hbase
  unfold Oper.wp execOp
  simp only [ho, resolve, invoke, builtin, Sem.run_bind, Sem.run_pure, Result.andThen_ok, List.map_toArray, List.map_cons, List.map_nil, hsv, hxv, hr]
  exact hK _ _ (h v' w' h2 h3 h4)
/-- append as one step of a region that draws its order. -/
theorem appR_step {ops : Array Oper} {o : Oper} {a : Act} {K : Act → World → Prop} {Q : Exit → Act → World → Prop} {E : Prop} (hg : o.guard = none) (s x : Operand)
    (ho : o.op = .call { callee := .builtin .append, args := #[s, x], argTypes := #[t, t] }) {i : TypeInfo} {z : Value} {bytes : Nat} (ht : P.underlying t = some (.slice e)) (hi : P.info? e = some i) (hz : i.zero = some z) (hs : i.size = R.size) (hb : i.bytes = bytes) (hc : z.cells.size = R.size) (hby : bytes ≤ 65536)
    (hsv : a.eval s = v) (hxv : a.eval x = .slice A m c) (own : OwnR R w base e v V) (src : RowR R w A m U) (hle : V.length + m ≤ 1048576) (hbase : base ≤ w.heap.size)
    (h : ∀ v' w', OwnR R w' base e v' (V ++ U) → w.grownBy w' v.ownBlock → (v'.ownBlock = v.ownBlock ∨ v'.ownBlock = some w.heap.size) → K (a.put o.dst v') w') :
    if Region.wanted o (yielded ops a.tmps) = true then Oper.wp P o a w K Q else E := by
  rw [if_pos (show Region.wanted o (yielded ops a.tmps) = true by simp [Region.wanted, hg])]
  obtain ⟨v', w', hr, h2, h3, h4⟩ := run_appR (ty := o.type) (c := c) ht hi hz hs hb hc own src hle hby hbase
  unfold Oper.wp execOp
  simp only [ho, resolve, invoke, builtin, Sem.run_bind, Sem.run_pure, Result.andThen_ok, List.map_toArray, List.map_cons, List.map_nil, hsv, hxv, hr]
  exact h v' w' h2 h3 h4
end
/-- Records of two integers. -/
def rec2 (k k' : IntKind) : Rec (Int × Int) := ⟨fun a => [.int k a.1, .int k' a.2], 2, by decide, fun _ => rfl, fun a u hu => by simp at hu; rcases hu with rfl | rfl <;> rfl⟩
end Go.Proofs.Ytfncipoiblieeaa
