/- Two rows of the call's own (of integers, of pairs) and a variable that takes them both: what a drawn region makes of them, step by step. No package's types. -/
import Derived.Test.YtpfmjocpgnoepaaBatAdd
import Derived.Deep.MidRow
import Derived.Deep.DrawnRows
namespace Go.Proofs.Ytpfmjocpgnoepaa
set_option linter.unusedVariables false
open Go.ChangeShapes Go.WideShapes Go.ChangeAt Go.RowKit

section
variable {α β : Type} {R : Rec α} {R' : Rec β} {w w' W : World} {base g : Nat} {e e' ty : TypeId} {v v' : Value} {V : List α} {V' : List β}
theorem frm_grown (gr : w.grownBy w' v.ownBlock) : Frm (fun j => v.ownBlock = some j) w w' := ⟨gr.os, gr.tape, gr.output, gr.size, fun j hj hn => gr.block j hj (fun e => hn e.symm)⟩
/-- Another row, of another type, stays where one grows. -/
theorem OwnR.other (h : OwnR R' w base e' v' V') (gr : w.grownBy w' v.ownBlock) (own : OwnR R w base e v V) (hne : e ≠ e') : OwnR R' w' base e' v' V' :=
  h.frm (frm_grown gr) (fun j hj cs hc => by
    obtain ⟨cs', ho⟩ := OwnR.block own hj
    rw [ho] at hc
    injection hc with hc
    injection hc with _ h2 _
    exact hne h2)
theorem kept_other {cs : Array Value} (h : w.heap[g]? = some (.cells cs ty)) (gr : w.grownBy w' v.ownBlock) (own : OwnR R w base e v V) (hne : e ≠ ty) : w'.heap[g]? = some (.cells cs ty) :=
  ((frm_grown gr).block g (heap_lt h) (fun hj => by
    obtain ⟨cs', ho⟩ := OwnR.block own hj
    rw [ho] at h
    injection h with h
    injection h with _ h2 _
    exact hne h2)).trans h
theorem grown_base (hB : Below base W w) (hz : base ≤ w.heap.size) (gr : w.grownBy w' v.ownBlock) (own : OwnR R w base e v V) : Below base W w' := hB.trans (grown_low gr hz (fun b hb => own.low b hb))
/-- A variable of two slices, each a row of the call's own. -/
structure Twin (R : Rec α) (R' : Rec β) (W wq : World) (ty e e' : TypeId) (g : Nat) (v v' : Value) (V : List α) (V' : List β) : Prop where
  low : Below W.heap.size W wq
  ge : W.heap.size ≤ g
  blk : wq.heap[g]? = some (.cells #[v, v'] ty)
  ra : OwnR R wq W.heap.size e v V
  rb : OwnR R' wq W.heap.size e' v' V'
theorem twin_store {u0 u1 : Value} (hB : Below W.heap.size W w) (hg : W.heap.size ≤ g) (hk : w.heap[g]? = some (.cells #[u0, u1] ty)) (ra : OwnR R w W.heap.size e v V) (rb : OwnR R' w W.heap.size e' v' V') (h1 : ty ≠ e) (h2 : ty ≠ e') :
    Twin R R' W ((w.setCell ⟨g, 0, none⟩ v).setCell ⟨g, 1, none⟩ v') ty e e' g v v' V V' := by
  have f := sets_bfrm w g v v'
  refine ⟨hB.trans (f.below hB.size (fun j hj ee => by omega)), hg, ?_, ra.frm f (fun j ee cs hc => ?_), rb.frm f (fun j ee cs hc => ?_)⟩
  · rw [heap_set_same (heap_set_same hk _)]
    rfl
  · rw [show j = g from ee, hk] at hc
    injection hc with hc
    injection hc with _ h3 _
    exact h1 h3
  · rw [show j = g from ee, hk] at hc
    injection hc with hc
    injection hc with _ h3 _
    exact h2 h3
theorem twin_set0 {u0 v1 : Value} (hB : Below W.heap.size W w) (hg : W.heap.size ≤ g) (hk : w.heap[g]? = some (.cells #[u0, v1] ty)) (ra : OwnR R w W.heap.size e v V) (rb : OwnR R' w W.heap.size e' v1 V') (h1 : ty ≠ e) (h2 : ty ≠ e') :
    Twin R R' W (w.setCell ⟨g, 0, none⟩ v) ty e e' g v v1 V V' := by
  have f := (Frm.refl (· = g) w).set (F := (· = g)) (p := ⟨g, 0, none⟩) rfl v
  refine ⟨hB.trans (f.below hB.size (fun j hj ee => by omega)), hg, ?_, ra.frm f (fun j ee cs hc => ?_), rb.frm f (fun j ee cs hc => ?_)⟩
  · rw [heap_set_same hk _]
    rfl
  · rw [show j = g from ee, hk] at hc
    injection hc with hc
    injection hc with _ h3 _
    exact h1 h3
  · rw [show j = g from ee, hk] at hc
    injection hc with hc
    injection hc with _ h3 _
    exact h2 h3
theorem twin_set1 {v0 u1 : Value} (hB : Below W.heap.size W w) (hg : W.heap.size ≤ g) (hk : w.heap[g]? = some (.cells #[v0, u1] ty)) (ra : OwnR R w W.heap.size e v0 V) (rb : OwnR R' w W.heap.size e' v' V') (h1 : ty ≠ e) (h2 : ty ≠ e') :
    Twin R R' W (w.setCell ⟨g, 1, none⟩ v') ty e e' g v0 v' V V' := by
  have f := (Frm.refl (· = g) w).set (F := (· = g)) (p := ⟨g, 1, none⟩) rfl v'
  refine ⟨hB.trans (f.below hB.size (fun j hj ee => by omega)), hg, ?_, ra.frm f (fun j ee cs hc => ?_), rb.frm f (fun j ee cs hc => ?_)⟩
  · rw [heap_set_same hk _]
    rfl
  · rw [show j = g from ee, hk] at hc
    injection hc with hc
    injection hc with _ h3 _
    exact h1 h3
  · rw [show j = g from ee, hk] at hc
    injection hc with hc
    injection hc with _ h3 _
    exact h2 h3
end
theorem Twin.bat {W wq : World} {ty e e' : TypeId} {g : Nat} {A1 M1 : Option Addr} {n1 c1 m1 d1 : Nat} {zs : List Int} {ms : List P2} (h : Twin irec prec W wq ty e e' g (.slice A1 n1 c1) (.slice M1 m1 d1) zs ms) (hf : ∀ y ∈ ms, y.Fits) : Bat wq A1 n1 c1 M1 m1 d1 zs ms :=
  ⟨h.ra.row.1, h.rb.row.1, h.ra.row.2.1, h.rb.row.2.1, hf⟩
section
variable {P : Program} {K : Act → World → Prop} {E : Prop} {Q : Exit → Act → World → Prop} {a : Act} {w w' : World} {o : Oper} {ops : Array Oper}
/-- A step of a drawn region, its operation written out: an empty row, a variable, append, a store of two cells, by their runs (no search). -/
theorem build0_wp {t : TypeId} {v : Value} (ho : o.op = .buildSlice t 0 #[]) (hrun : (Instr.buildSlice t 0 #[]).run P w = .ok v w') (h : K (a.put o.dst v) w') : Oper.wp P o a w K Q := by
  unfold Oper.wp
  simp [execOp, ho, hrun, Result.andThen]
  exact h
theorem alloc_wp {t : TypeId} {v : Value} (ho : o.op = .alloc t) (hrun : (Instr.alloc t true (.tuple #[])).run P w = .ok v w') (h : K (a.put o.dst v) w') : Oper.wp P o a w K Q := by
  unfold Oper.wp
  simp [execOp, ho, hrun, Result.andThen]
  exact h
theorem appS_wp {α : Type} {R : Rec α} {t e : TypeId} {base m c : Nat} {v : Value} {V U : List α} {A : Option Addr} (S : SlT P R t e) (hg : o.guard = none) (s x : Operand) (ho : o.op = .call { callee := .builtin .append, args := #[s, x], argTypes := #[t, t] })
    (hsv : a.eval s = v) (hxv : a.eval x = .slice A m c) (own : OwnR R w base e v V) (src : RowR R w A m U) (hle : V.length + m ≤ 1048576) (hbase : base ≤ w.heap.size)
    (h : ∀ v' w', OwnR R w' base e v' (V ++ U) → w.grownBy w' v.ownBlock → (v'.ownBlock = v.ownBlock ∨ v'.ownBlock = some w.heap.size) → K (a.put o.dst v') w') : Oper.wp P o a w K Q := by
  have := appS_step (ops := #[]) (E := True) (Q := Q) S hg s x ho hsv hxv own src hle hbase h
  rwa [if_pos (show Region.wanted o (yielded #[] a.tmps) = true by simp [Region.wanted, hg])] at this
theorem call1_step {f : FuncId} {args : Array Value} (hg : o.guard = none) (hrun : (execOp a.eval o).run P w = .ok (.enter f args) w) (h : Calls P f args w fun e w' => ∃ v, e = .returned v ∧ K (a.put o.dst v) w') :
    if Region.wanted o (yielded ops a.tmps) = true then Oper.wp P o a w K Q else E := by
  rw [if_pos (show Region.wanted o (yielded ops a.tmps) = true by simp [Region.wanted, hg])]
  unfold Oper.wp
  rw [hrun, Oper.upon_enter]
  exact h.mono (by rintro _ w' ⟨v, rfl, hk⟩; exact hk)
theorem store2_wp {ty : TypeId} {x y : Operand} {g : Nat} {u0 u1 v0 v1 : Value} (ho : o.op = .store ty x y) (hx : a.eval x = .pointer (some ⟨g, 0, none⟩)) (hy : a.eval y = .agg #[v0, v1])
    (hk : w.heap[g]? = some (.cells #[u0, u1] ty)) (hi : (P.info? ty).map (·.size) = some 2) (h0 : v0.oneCell' = true) (h1 : v1.oneCell' = true)
    (h : K (a.put o.dst undef) ((w.setCell ⟨g, 0, none⟩ v0).setCell ⟨g, 1, none⟩ v1)) :
    Oper.wp P o a w K Q := by
  refine wp_store_mid ty x y ho g 0 #[v0, v1] hx hy (vobj_there (vs := [u0, u1]) hk 0 2 (by simp)) hi (by simp [h0, h1]) ?_
  exact h
end
end Go.Proofs.Ytpfmjocpgnoepaa
