/- Slices of integers and of pairs of integers as rows of records: reading them, those that came in, append onto a row that the call made, append onto any row that was cut to its length (it takes new memory), a slice of three indices, make. No package's types. -/
import Derived.Test.YtfncipoiblieeaaRecs
import Derived.Test.YtfncipoiblieeaaSlc
import Derived.Deep.AppendSrc
import Derived.OwnWalk
import Derived.Laws.Cover3
namespace Go.Proofs.Ytfncipoiblieeaa
set_option linter.unusedVariables false
open Go.ChangeShapes Go.WideShapes Go.ChangeAt Go.RowKit

/-- Two integers (a structure, and no pair: nothing parts it). -/
structure P2 where
  a : Int
  b : Int
instance : DecidableEq P2 := fun x y => decidable_of_iff (x.a = y.a ∧ x.b = y.b) ⟨fun h => by cases x; cases y; simp at h; simp [h], fun h => by subst h; exact ⟨rfl, rfl⟩⟩
def P2.Fits (x : P2) : Prop := wf64 x.a ∧ wf64 x.b
/-- Records of two integers; of one. -/
def prec : Rec P2 := ⟨fun x => [.int .i64 x.a, .int .i64 x.b], 2, by decide, fun _ => rfl, fun a u hu => by simp at hu; rcases hu with rfl | rfl <;> rfl⟩
def irec : Rec Int := ⟨fun x => [.int .i64 x], 1, by decide, fun _ => rfl, fun a u hu => by simp at hu; subst hu; rfl⟩
section
variable {w w' : World} {A : Option Addr} {n : Nat}
theorem RowR.int_at {V : List Int} (h : RowR irec w A n V) {i : Nat} (hi : i < n) : ∃ b off z, A = some ⟨b, off, none⟩ ∧ V[i]? = some z ∧ w.cell? ⟨b, off + i, none⟩ = some (.int .i64 z) := by
  obtain ⟨b, off, a, hA, hV, _, hc⟩ := h.at_ hi
  refine ⟨b, off, a, hA, hV, ?_⟩
  have := hc 0 _ rfl
  simpa [irec] using this
theorem RowR.pair_at {V : List P2} (h : RowR prec w A n V) {i : Nat} (hi : i < n) : ∃ b off x, A = some ⟨b, off, none⟩ ∧ V[i]? = some x ∧ w.cell? ⟨b, off + i * 2, none⟩ = some (.int .i64 x.a) ∧ w.cell? ⟨b, off + i * 2 + 1, none⟩ = some (.int .i64 x.b) := by
  obtain ⟨b, off, a, hA, hV, _, hc⟩ := h.at_ hi
  exact ⟨b, off, a, hA, hV, hc 0 _ rfl, hc 1 _ rfl⟩
/-- Rows that came in. -/
theorem rows_in {α : Type} {R : Rec α} {ks : List CK} {bytes : Nat} {a : Option Addr} {l k : Nat} {D : List (List Value)} {Ft : α → Prop} (hk : ks.length = R.size) (hd : ∀ vs, Flat ks vs → ∃ x, vs = R.cells x ∧ Ft x) (h : SliceIn w ks bytes a l k D) :
    ∃ V : List α, RowR R w a l V ∧ (∀ x ∈ V, Ft x) ∧ l ≤ k ∧ k ≤ maxLen := by
  obtain ⟨h1, h2, h3, _, h5, h6⟩ := h
  have hz : ∀ M : List (List Value), (∀ row ∈ M, Flat ks row) → ∃ V : List α, M = V.map R.cells ∧ ∀ x ∈ V, Ft x := by
    intro M
    induction M with
    | nil => intro _; exact ⟨[], rfl, by simp⟩
    | cons row M ih =>
      intro hM
      obtain ⟨V, e, hV⟩ := ih (fun r hr => hM r (by simp [hr]))
      obtain ⟨x, rfl, hx⟩ := hd _ (hM row (by simp))
      exact ⟨x :: V, by simp [e], by intro y hy; rcases List.mem_cons.1 hy with rfl | hy; exact hx; exact hV y hy⟩
  obtain ⟨V, rfl, hV⟩ := hz D h2
  refine ⟨V, ⟨by simpa using h1, by omega, ?_⟩, hV, h3, h5⟩
  rcases h6 with h6 | ⟨b, off, e, hlt, hc⟩
  · exact .inl h6
  · refine .inr ⟨b, off, e, hlt, fun j u hu => ?_⟩
    have hj := (List.getElem?_eq_some_iff.1 hu).1
    rw [R.flat_length V] at hj
    have hpos := R.pos
    have hi : j / R.size < V.length := (Nat.div_lt_iff_lt_mul hpos).2 hj
    have hV' : V[j / R.size]? = some (V[j / R.size]'hi) := List.getElem?_eq_getElem hi
    have hr : j % R.size < (R.cells (V[j / R.size]'hi)).length := by rw [R.len]; exact Nat.mod_lt _ hpos
    have hv : (R.cells (V[j / R.size]'hi))[j % R.size]? = some ((R.cells (V[j / R.size]'hi))[j % R.size]'hr) := List.getElem?_eq_getElem _
    have hdm : j / R.size * R.size + j % R.size = j := by rw [Nat.mul_comm]; exact Nat.div_add_mod _ _
    have h7 := R.flat_at hV' hv
    rw [hdm] at h7
    rw [h7] at hu
    injection hu with hu
    rw [← hu]
    have := hc (j / R.size) (j % R.size) (R.cells (V[j / R.size]'hi)) _ (by rw [List.getElem?_map, hV']; rfl) hv
    rwa [hk, hdm] at this
theorem pairs_in {bytes : Nat} {a : Option Addr} {l k : Nat} {D : List (List Value)} (h : SliceIn w [.int .i64, .int .i64] bytes a l k D) : ∃ V : List P2, RowR prec w a l V ∧ (∀ x ∈ V, x.Fits) ∧ l ≤ k ∧ k ≤ maxLen := by
  refine rows_in (R := prec) (Ft := P2.Fits) rfl (fun vs hv => ?_) h
  obtain _ | ⟨v0, vs⟩ := vs
  · exact hv.elim
  obtain ⟨⟨a, rfl, ha⟩, hv⟩ := hv
  obtain _ | ⟨v1, vs⟩ := vs
  · exact hv.elim
  obtain ⟨⟨b, rfl, hb⟩, hv⟩ := hv
  obtain _ | ⟨v2, vs⟩ := vs
  · exact ⟨⟨a, b⟩, rfl, bounds_i64 ha, bounds_i64 hb⟩
  · exact hv.elim
theorem ints_in {bytes : Nat} {a : Option Addr} {l k : Nat} {D : List (List Value)} (h : SliceIn w [.int .i64] bytes a l k D) : ∃ V : List Int, RowR irec w a l V ∧ (∀ x ∈ V, wf64 x) ∧ l ≤ k ∧ k ≤ maxLen := by
  refine rows_in (R := irec) (Ft := wf64) rfl (fun vs hv => ?_) h
  obtain _ | ⟨v0, vs⟩ := vs
  · exact hv.elim
  obtain ⟨⟨a, rfl, ha⟩, hv⟩ := hv
  obtain _ | ⟨v1, vs⟩ := vs
  · exact ⟨a, rfl, bounds_i64 ha⟩
  · exact hv.elim
end

/-! ### a slice's type -/
/-- The type t is a slice of e, whose values are the records R. -/
structure SlT {α : Type} (P : Program) (R : Rec α) (t e : TypeId) : Prop where
  und : P.underlying t = some (.slice e)
  inf : ∃ i z, P.info? e = some i ∧ i.zero = some z ∧ i.size = R.size ∧ i.bytes ≤ 64 ∧ z.cells.size = R.size
theorem slT_of {α : Type} {P : Program} {R : Rec α} {t e : TypeId} {z : Value} {n by_ : Nat} (ht : P.underlying t = some (.slice e)) (hi : (P.info? e).map (fun i => (i.zero, i.size, i.bytes)) = some (some z, n, by_)) (hn : n = R.size) (hb : by_ ≤ 64) (hz : z.cells.size = R.size) : SlT P R t e := by
  refine ⟨ht, ?_⟩
  cases h : P.info? e with
  | none => rw [h] at hi; cases hi
  | some i =>
    rw [h] at hi
    simp only [Option.map_some, Option.some.injEq, Prod.mk.injEq] at hi
    exact ⟨i, z, rfl, hi.1, hi.2.1.trans hn, by omega, hz⟩
/-- It lies in memory that is new since there were B blocks, if anywhere. -/
def Fresh (B : Nat) (A : Option Addr) : Prop := ∀ b off, A = some ⟨b, off, none⟩ → B ≤ b
theorem Fresh.mono {B B' : Nat} {A : Option Addr} (h : Fresh B A) (hb : B' ≤ B) : Fresh B' A := fun b off e => Nat.le_trans hb (h b off e)
theorem Fresh.none (B : Nat) : Fresh B none := fun _ _ e => by cases e
theorem Fresh.at_ {B b off : Nat} (h : B ≤ b) : Fresh B (some ⟨b, off, Option.none⟩) := fun _ _ e => by cases e; exact h
theorem OwnR.fresh {α : Type} {R : Rec α} {w : World} {base : Nat} {e : TypeId} {A : Option Addr} {n c : Nat} {V : List α} (h : OwnR R w base e (.slice A n c) V) : Fresh base A := fun b off e => h.low b (by rw [e]; rfl)
/-- A new row of one record. -/
theorem OwnR.one {α : Type} {R : Rec α} (w : World) (a : α) (e : TypeId) {base : Nat} {cs : Array Value} (hcs : cs.toList = R.cells a) (hb : base ≤ w.heap.size) : OwnR R (w.alloc (.cells cs e)) base e (.slice (some ⟨w.heap.size, 0, none⟩) 1 1) [a] := by
  have hl : cs.size = R.size := by rw [← Array.length_toList, hcs, R.len]
  have hfl : R.flat [a] = cs.toList := by rw [Rec.flat, Rec.flat, List.append_nil, hcs]
  refine ⟨⟨R.flat_length [a], .inr ⟨w.heap.size, 1, cs, rfl, hb, heap_alloc_at w _, Nat.le_refl _, by decide, by omega, ?_⟩⟩, by simp [maxLen]⟩
  rw [hfl, List.take_of_length_le (by rw [Array.length_toList, hl]; simp)]
/-- Rows that lie elsewhere stay. -/
theorem RowR.apart {α : Type} {R : Rec α} {w w' : World} {A : Option Addr} {n : Nat} {V : List α} {F : Nat → Prop} (h : RowR R w A n V) (hf : Frm F w w') (hF : ∀ b off, A = some ⟨b, off, none⟩ → 0 < n → ¬ F b) : RowR R w' A n V := by
  by_cases h0 : n = 0
  · exact ⟨h.1, h.2.1, .inl h0⟩
  · exact h.frm hf (fun b off e => hF b off e (by omega))
theorem RowR.lt {α : Type} {R : Rec α} {w : World} {A : Option Addr} {n : Nat} {V : List α} (h : RowR R w A n V) {b off : Nat} (e : A = some ⟨b, off, none⟩) (hn : 0 < n) : b < w.heap.size := by
  obtain ⟨b', off', a, e', _, hlt, _⟩ := h.at_ hn
  rw [e] at e'
  cases e'
  exact hlt
section
variable {α : Type} {P : Program} {R : Rec α} {t e : TypeId} {w : World} {base n m c d : Nat} {v : Value} {V U : List α} {A B : Option Addr}
variable {ops : Array Oper} {rest : List Oper} {o : Oper} {a : Act} {Q : Exit → Act → World → Prop}
theorem SlT.size (S : SlT P R t e) (w : World) : (sizeOf e).run P w = .ok R.size w := by
  obtain ⟨i, z, hi, _, hs, _⟩ := S.inf
  simp [sizeOf, typeInfo, hi, hs]
/-- '== nil'. -/
theorem run_isNil (S : SlT P R t e) (w : World) : (binOp .eql t (.slice A n c) (.slice none 0 0)).run P w = .ok (.bool A.isNone) w := by
  have h := run_equal_slice_nil (P := P) w t e A n c S.und
  simp [binOp, h]
/-- append onto a row of the call's own. -/
theorem wpList_appS (S : SlT P R t e) (hg : o.guard = none) (s x : Operand) (ho : o.op = .call { callee := .builtin .append, args := #[s, x], argTypes := #[t, t] })
    (hsv : a.eval s = v) (hxv : a.eval x = .slice A m c) (own : OwnR R w base e v V) (src : RowR R w A m U) (hle : V.length + m ≤ 1048576) (hbase : base ≤ w.heap.size)
    (h : ∀ v' w', OwnR R w' base e v' (V ++ U) → w.grownBy w' v.ownBlock → (v'.ownBlock = v.ownBlock ∨ v'.ownBlock = some w.heap.size) → wpList P ops Q rest (a.put o.dst v') w') : wpList P ops Q (o :: rest) a w := by
  obtain ⟨i, z, hi, hz, hs, hb, hc⟩ := S.inf
  exact wpList_appR hg s x ho S.und hi hz hs rfl hc (by omega) hsv hxv own src hle hbase h
theorem appS_step {K : Act → World → Prop} {E : Prop} (S : SlT P R t e) (hg : o.guard = none) (s x : Operand) (ho : o.op = .call { callee := .builtin .append, args := #[s, x], argTypes := #[t, t] })
    (hsv : a.eval s = v) (hxv : a.eval x = .slice A m c) (own : OwnR R w base e v V) (src : RowR R w A m U) (hle : V.length + m ≤ 1048576) (hbase : base ≤ w.heap.size)
    (h : ∀ v' w', OwnR R w' base e v' (V ++ U) → w.grownBy w' v.ownBlock → (v'.ownBlock = v.ownBlock ∨ v'.ownBlock = some w.heap.size) → K (a.put o.dst v') w') :
    if Region.wanted o (yielded ops a.tmps) = true then Oper.wp P o a w K Q else E := by
  obtain ⟨i, z, hi, hz, hs, hb, hc⟩ := S.inf
  exact appR_step hg s x ho S.und hi hz hs rfl hc (by omega) hsv hxv own src hle hbase h
/-- append onto any row that is cut to its length: it takes new memory. -/
theorem run_appC {ty : TypeId} (S : SlT P R t e) (own : RowR R w A n V) (src : RowR R w B m U) (hm : 0 < m) (hle : n + m ≤ 1048576) :
    ∃ A' c' w', (Builtin.append_ #[t, t] ty #[.slice A n n, .slice B m d]).run P w = .ok (.slice A' (n + m) c') w' ∧ RowR R w' A' (n + m) (V ++ U) ∧ n + m ≤ c' ∧ Fresh w.heap.size A' ∧ Below w.heap.size w w' := by
  obtain ⟨i, z, hi, hz, hs, hb, hc⟩ := S.inf
  have hold : (Builtin.firstCells i.size n (.slice A n n)).run P w.drew = .ok (R.flat V).toArray w.drew := by
    rcases own.2.2 with h0 | ⟨b, off, rfl, hlt, hcs⟩
    · subst h0
      have : V = [] := List.eq_nil_of_length_eq_zero own.1
      subst this
      cases A <;> simp [Builtin.firstCells, loadCells, loadCellsFrom, Rec.flat]
    · exact run_firstCells_some (P := P) w.drew i.size n ⟨b, off, none⟩ n n (R.flat V) (by rw [R.flat_length, own.1, hs]) (fun j u hu => by rw [add_plain]; exact hcs j u hu)
  have hsrc : Src P i.size t (.slice B m d) m (R.flat U) w := by
    rcases src.2.2 with h0 | ⟨b, off, rfl, hlt, hcs⟩
    · omega
    · exact Src.ofSlice w S.und ⟨b, off, none⟩ m d (R.flat U) (by rw [R.flat_length, src.1, hs]) (fun j u hu => by rw [add_plain]; exact hcs j u hu) (R.flat_one U)
  have hfit : Builtin.nextslicecap (n + m) n * i.bytes ≤ 281474976710656 := by
    have h1 := nextslicecap_le (need := n + m) (old := n) (by omega)
    have := Nat.mul_le_mul (Nat.le_trans h1 (Nat.mul_le_mul_left 2 hle)) hb
    omega
  have hr := run_append_grow_src (P := P) w t t ty e i z S.und hi hz A n n (R.flat V) hold (.slice B m d) m (R.flat U) hsrc (by omega) (by omega) hfit
  refine ⟨_, _, _, hr, ⟨by rw [List.length_append, own.1, src.1], by unfold maxLen; omega, .inr ⟨w.heap.size, 0, rfl, by simp, fun j u hu => ?_⟩⟩, grownCap_ge _ _ _ _, Fresh.at_ (Nat.le_refl _), below_ali (Below.refl _ _) (drew_ali w) |>.alloc (Nat.le_refl _) _⟩
  have hat := heap_alloc_at w.drew (.cells ((R.flat V ++ R.flat U).toArray ++ Builtin.zeroCells z.cells (grownCap w (n + m) n e - (n + m))) e)
  rw [show w.drew.heap.size = w.heap.size from rfl] at hat
  rw [cell_of hat, Nat.zero_add, ← R.flat_append, Array.getElem?_append_left (by rw [List.size_toArray]; exact (List.getElem?_eq_some_iff.1 hu).1)]
  simpa using hu
theorem wpList_appC (S : SlT P R t e) (hg : o.guard = none) (s x : Operand) (ho : o.op = .call { callee := .builtin .append, args := #[s, x], argTypes := #[t, t] })
    (hsv : a.eval s = .slice A n n) (hxv : a.eval x = .slice B m d) (own : RowR R w A n V) (src : RowR R w B m U) (hm : 0 < m) (hle : n + m ≤ 1048576)
    (h : ∀ A' c' w', RowR R w' A' (n + m) (V ++ U) → n + m ≤ c' → Fresh w.heap.size A' → Below w.heap.size w w' → wpList P ops Q rest (a.put o.dst (.slice A' (n + m) c')) w') : wpList P ops Q (o :: rest) a w := by
  refine wpList_plain hg fun _ hK => ?_
  obtain ⟨A', c', w', hr, h2, h3, h4, h5⟩ := run_appC (ty := o.type) (d := d) S own src hm hle
  unfold Oper.wp execOp
  simp only [ho, resolve, invoke, builtin, Sem.run_bind, Sem.run_pure, Result.andThen_ok, List.map_toArray, List.map_cons, List.map_nil, hsv, hxv, hr]
  exact hK _ _ (h A' c' w' h2 h3 h4 h5)
theorem appC_step {K : Act → World → Prop} {E : Prop} (S : SlT P R t e) (hg : o.guard = none) (s x : Operand) (ho : o.op = .call { callee := .builtin .append, args := #[s, x], argTypes := #[t, t] })
    (hsv : a.eval s = .slice A n n) (hxv : a.eval x = .slice B m d) (own : RowR R w A n V) (src : RowR R w B m U) (hm : 0 < m) (hle : n + m ≤ 1048576)
    (h : ∀ A' c' w', RowR R w' A' (n + m) (V ++ U) → n + m ≤ c' → Fresh w.heap.size A' → Below w.heap.size w w' → K (a.put o.dst (.slice A' (n + m) c')) w') :
    if Region.wanted o (yielded ops a.tmps) = true then Oper.wp P o a w K Q else E := by
  rw [if_pos (show Region.wanted o (yielded ops a.tmps) = true by simp [Region.wanted, hg])]
  obtain ⟨A', c', w', hr, h2, h3, h4, h5⟩ := run_appC (ty := o.type) (d := d) S own src hm hle
  unfold Oper.wp execOp
  simp only [ho, resolve, invoke, builtin, Sem.run_bind, Sem.run_pure, Result.andThen_ok, List.map_toArray, List.map_cons, List.map_nil, hsv, hxv, hr]
  exact h A' c' w' h2 h3 h4 h5
/-- 'x[:len(x):len(x)]'. -/
theorem run_cut (S : SlT P R t e) (hr : RowR R w A n V) (hnc : n ≤ c) {k k' : IntKind} :
    ∃ A', (∀ w', (Instr.sliceAt t (.slice A n c) none (some (.int k n)) (some (.int k' n))).run P w' = .ok (.slice A' n n) w') ∧ RowR R w A' n V := by
  have e1 : ∀ w', (Instr.sliceAt t (.slice A n c) none (some (.int k n)) (some (.int k' n))).run P w' = .ok (.slice (if n = 0 then A else A.map (·.add (0 * R.size))) n n) w' := by
    intro w'
    simp [Instr.sliceAt, Instr.slice, Instr.sliceBounds, Instr.sliceBound, run_underlying S.und, S.size, asIntOf]
    omega
  refine ⟨_, e1, ?_⟩
  by_cases h0 : n = 0
  · rw [if_pos h0]; exact hr
  · rw [if_neg h0]
    rcases hr.2.2 with h | ⟨b, off, rfl, hlt, hc⟩
    · exact absurd h h0
    · simpa [add_plain] using hr
/-- 'make([]T, 0, n)'. -/
theorem wpList_makeS (S : SlT P R t e) (hg : o.guard = none) (l cp : Operand) (ho : o.op = Op.makeSlice t l cp) (hl : a.eval l = .int .i64 0) (hc : a.eval cp = .int .i64 (n : Int)) (hn : n ≤ 1048576)
    (hK : ∀ w', OwnR R w' w.heap.size e (.slice (some ⟨w.heap.size, 0, none⟩) 0 n) [] → Below w.heap.size w w' → wpList P ops Q rest (a.put o.dst (.slice (some ⟨w.heap.size, 0, none⟩) 0 n)) w') : wpList P ops Q (o :: rest) a w := by
  obtain ⟨i, z, hi, hz, hs, hb, hcz⟩ := S.inf
  refine wpList_make_own w hg l cp t ho w.heap.size e i z R.size S.und hi hz hs .i64 .i64 _ n hl hc rfl ?_ (by unfold maxLen; omega) (Nat.le_refl _) (fun w' h1 h2 => hK w' ⟨h1, by simp⟩ ⟨h2.os, h2.tape, h2.output, h2.size, fun j hj => h2.block j hj (by simp)⟩)
  have := Nat.mul_le_mul hb hn
  omega
end
end Go.Proofs.Ytfncipoiblieeaa
