/- Slices of int that a call itself made ([]int): append onto them in a straight walk, reading them, what leaves them alone. -/
import Derived.Test.YtlphahkmibhidaaApp
import Derived.Test.YtlphahkmibhidaaBlk
import Derived.OwnWalk
import Derived.Maps.AppendAt
namespace Go.Proofs.Ytlphahkmibhidaa
set_option linter.unusedVariables false
open Go.ChangeShapes Go.WideShapes Go.ChangeAt Go.RowKit Go.Deep

theorem int_slice : Try.prog.underlying 49 = some (.slice 3) := by kernel_rfl
theorem int_info : (Try.prog.info? 3).map (fun i => (i.zero, i.size, i.bytes)) = some (some (.int .i64 0), 1, 8) := by kernel_rfl
/-- A slice of int that was made since the world had 'base' blocks. -/
abbrev Ints (w : World) (base : Nat) (v : Value) (zs : List Int) : Prop := w.ownsInts base 3 .i64 v zs
abbrev iobj (zs : List Int) : Obj := .cells ⟨zs.map (Value.int .i64)⟩ 3
section
variable {w w' : World} {base : Nat} {v : Value} {zs us : List Int} {A : Option Addr} {m c : Nat}

theorem Ints.block (h : Ints w base v zs) {g : Nat} (hg : v.ownBlock = some g) : ∃ cs, w.heap[g]? = some (.cells cs 3 (0, 0)) := by
  rcases h.1.2 with ⟨rfl, _⟩ | ⟨g', cap, cur, rfl, _, hh, _⟩
  · cases hg
  · cases hg
    exact ⟨cur, hh⟩
/-- Blocks of other kinds may turn. -/
theorem Ints.frm {F : Nat → Prop} (h : Ints w base v zs) (hf : Frm F w w') (hF : ∀ j, F j → ∀ cs, w.heap[j]? ≠ some (.cells cs 3 (0, 0))) : Ints w' base v zs := by
  refine ⟨⟨h.1.1, ?_⟩, h.2⟩
  rcases h.1.2 with h0 | ⟨g, cap, cur, hv, hb, hh, hr⟩
  · exact .inl h0
  · exact .inr ⟨g, cap, cur, hv, hb, by rw [hf.block g (heap_lt hh) (fun hc => hF g hc cur hh)]; exact hh, hr⟩
theorem Ints.below (h : Ints w base v zs) (hb : Below w.heap.size w w') : Ints w' base v zs := h.frm (F := fun _ => False) (Frm.of_below hb) (fun _ hc => hc.elim)
theorem Ints.ali (h : Ints w base v zs) (ha : Ali w w') : Ints w' base v zs := h.below (ali_below ha)
theorem Ints.mono (h : Ints w base v zs) {base' : Nat} (hb : base' ≤ base) : Ints w base' v zs := by
  refine ⟨⟨h.1.1, ?_⟩, h.2⟩
  rcases h.1.2 with h0 | ⟨g, cap, cur, hv, hb', hr⟩
  · exact .inl h0
  · exact .inr ⟨g, cap, cur, hv, by omega, hr⟩
theorem Ints.nil (w : World) (base : Nat) : Ints w base (.slice none 0 0) [] := World.ownsInts_nil _ _ _ _
theorem Row.of_cells {n : Nat} {b off : Nat} (hl : zs.length = n) (hm : n ≤ maxLen) (hw : ∀ z ∈ zs, wf64 z) (hc : ∀ j, j < zs.length → w.cell? ⟨b, off + j, none⟩ = some (.int .i64 (zs.getD j 0))) : Row .i64 w (some ⟨b, off, none⟩) n zs :=
  ⟨by omega, hm, .inr ⟨b, off, rfl, hc⟩, fun z hz => (hw z hz).lit⟩
theorem row_new (w : World) (zs : List Int) (hl : zs.length = m) (hm : m ≤ maxLen) (hw : ∀ z ∈ zs, wf64 z) : Row .i64 (w.alloc (iobj zs)) (some ⟨w.heap.size, 0, none⟩) m zs := by
  refine Row.of_cells hl hm hw fun j hj => ?_
  rw [cell_of (heap_alloc_at w _)]
  simp [List.getD, hj]
theorem row_one (w : World) (x : Int) (hx : wf64 x) : Row .i64 (w.alloc (.cells #[.int .i64 x] 3)) (some ⟨w.heap.size, 0, none⟩) 1 [x] := row_new w [x] rfl (by decide) (by simpa using hx)
theorem Row.frm {F : Nat → Prop} {k : IntKind} (h : Row k w A m zs) (hf : Frm F w w') (hF : ∀ b off, A = some ⟨b, off, none⟩ → ¬ F b) : Row k w' A m zs := by
  obtain ⟨h1, h2, h3, h4⟩ := h
  refine ⟨h1, h2, ?_, h4⟩
  rcases h3 with h0 | ⟨b, off, rfl, hc⟩
  · exact .inl h0
  · by_cases hz : zs.length = 0
    · exact .inl (by omega)
    · have hlt := cell_lt (hc 0 (by omega))
      exact .inr ⟨b, off, rfl, fun j hj => (World.cell?_of_block (w := w) (hf.block b hlt (hF b off rfl))).trans (hc j hj)⟩
theorem Row.ali {k : IntKind} (h : Row k w A m zs) (ha : Ali w w') : Row k w' A m zs := h.later (ali_below ha)
/-- The j-th number. -/
theorem Row.at_ {k : IntKind} (h : Row k w A m zs) {j : Nat} (hj : j < m) : ∃ b off, A = some ⟨b, off, none⟩ ∧ w.cell? ⟨b, off + j, none⟩ = some (.int k (zs.getD j 0)) := by
  rcases h.2.2.1 with h0 | ⟨b, off, e, hc⟩
  · omega
  · exact ⟨b, off, e, hc j (by have := h.1; omega)⟩
/-- A grown row leaves alone what is not in its block. -/
theorem grown_below {B : Nat} (hg : w.grownBy w' v.ownBlock) (hB : B ≤ w.heap.size) (hlo : ∀ g, v.ownBlock = some g → B ≤ g) : Below B w w' :=
  ⟨hg.os, hg.tape, hg.output, hg.size, fun j hj => hg.block j (by omega) (fun e => by have := hlo j e.symm; omega)⟩
theorem Ints.low (h : Ints w base v zs) : ∀ g, v.ownBlock = some g → base ≤ g := fun g hg => (h.1.lt g hg).1

theorem Ints.row {n : Nat} (h : Ints w base (.slice A n c) zs) : Row .i64 w A n zs ∧ zs.length = n ∧ n ≤ c ∧ c ≤ maxLen := by
  obtain ⟨A', n', c', e, h1, h2, h3, h4⟩ := own_row' h
  injection e with e1 e2 e3
  subst e1 e2 e3
  exact ⟨h1, h2.out, h3, h4⟩
/-- append onto a slice of the call's own, in a straight walk. -/
theorem wpList_app {ops : Array Oper} {rest : List Oper} {o : Oper} {a : Act} {Q : Exit → Act → World → Prop} (hg : o.guard = none) (s x : Operand)
    (ho : o.op = .call { callee := .builtin .append, args := #[s, x], argTypes := #[49, 49] })
    (hsv : a.eval s = v) (hxv : a.eval x = .slice A m c) (own : Ints w base v zs) (src : Row .i64 w A m us) (hl : us.length = m) (hle : zs.length + m ≤ 1048576) (hbase : base ≤ w.heap.size)
    (h : ∀ v' w', Ints w' base v' (zs ++ us) → w.grownBy w' v.ownBlock → (v'.ownBlock = v.ownBlock ∨ v'.ownBlock = some w.heap.size) → wpList Try.prog ops Q rest (a.put o.dst v') w') : wpList Try.prog ops Q (o :: rest) a w := by
  refine wpList_plain hg fun _ hK => ?_
  obtain ⟨i0, hi0, hz0, hz1, hz2⟩ := info_parts int_info
  obtain ⟨v', w', hr, h2, h3, h4⟩ := app_ints (ty := o.type) (c := c) int_slice hi0 hz0 hz1 hz2 rfl own src hl hle (by omega) hbase
  unfold Oper.wp execOp
  simp only [ho, resolve, invoke, builtin, Sem.run_bind, Sem.run_pure, Result.andThen_ok, List.map_toArray, List.map_cons, List.map_nil, hsv, hxv, hr]
  exact hK _ _ (h v' w' h2 h3 h4)
end
end Go.Proofs.Ytlphahkmibhidaa
