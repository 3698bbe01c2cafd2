/- The document's cache by value (porpoiseref12): its struct of two slices; contracts of porpoiseref12: Ask of the scope 0, Close. -/
import Derived.Test.YtlphahkmibhidaaCac
import Derived.Test.YtlphahkmibhidaaRecs
import Derived.Test.YtlphahkmibhidaaTail
import Derived.Deep.LoopGhost
import Derived.Deep.RegionLaw
import Derived.Deep.RegionHeld3
namespace Go.Proofs.Ytlphahkmibhidaa
set_option linter.unusedVariables false
open Go.ChangeShapes Go.WideShapes Go.ChangeAt Go.RowKit

/-- The document's cache: two slices. -/
structure RC where
  A : Option Addr
  n : Nat
  c : Nat
  B : Option Addr
  m : Nat
  d : Nat
namespace RC
def vals (x : RC) : List Value := [.slice x.A x.n x.c, .slice x.B x.m x.d]
def zero : RC := ⟨none, 0, 0, none, 0, 0⟩
theorem len_vals (x : RC) : x.vals.length = 2 := rfl
theorem ones_vals (x : RC) : Ones x.vals := by intro v hv; simp only [vals, List.mem_cons, List.not_mem_nil, or_false] at hv; rcases hv with rfl | rfl <;> rfl
end RC
/-- An entry's eight cells; a pair's two. -/
def CE.row (e : CE) : List Value := [.int .i64 e.k.a, .int .i64 e.k.b, .int .i64 e.k.c, .int .i64 e.id, .bool e.done, .int .i64 e.t.a, .int .i64 e.t.b, .int .i64 e.t.c]
theorem CE.row_ones (e : CE) : ∀ u ∈ e.row, u.oneCell' = true := by intro v hv; simp only [CE.row, List.mem_cons, List.not_mem_nil, or_false] at hv; rcases hv with rfl | rfl | rfl | rfl | rfl | rfl | rfl | rfl <;> rfl
def erec : Rec CE := ⟨CE.row, 8, by decide, fun _ => rfl, CE.row_ones⟩
def prec : Rec (Int × Int) := rec2 .i64 .i64
def CE.none_ : CE := ⟨zero3, 0, false, zero3⟩
abbrev EntR (w : World) (base : Nat) (v : Value) (V : List CE) : Prop := OwnR erec w base 41 v V
abbrev PrR (w : World) (base : Nat) (v : Value) (V : List (Int × Int)) : Prop := OwnR prec w base 72 v V
/-- It tells the same as the state S. -/
structure RC.Is (x : RC) (w : World) (base : Nat) (S : CA) : Prop where
  ent : EntR w base (.slice x.A x.n x.c) S.E
  prs : PrR w base (.slice x.B x.m x.d) S.J
section
variable {x : RC} {w w' : World} {base : Nat} {S : CA}
theorem RC.Is.frm {F : Nat → Prop} (h : x.Is w base S) (hf : Frm F w w') (hF : ∀ j, F j → ∀ cs, w.heap[j]? ≠ some (.cells cs 41 (0, 0)) ∧ w.heap[j]? ≠ some (.cells cs 72 (0, 0))) : x.Is w' base S :=
  ⟨h.ent.frm hf (fun j hj cs => (hF j hj cs).1), h.prs.frm hf (fun j hj cs => (hF j hj cs).2)⟩
theorem RC.Is.below (h : x.Is w base S) (hb : Below w.heap.size w w') : x.Is w' base S := ⟨h.ent.below hb, h.prs.below hb⟩
theorem RC.Is.ali (h : x.Is w base S) (ha : Ali w w') : x.Is w' base S := h.below (ali_below ha)
theorem RC.Is.mono (h : x.Is w base S) {base' : Nat} (hb : base' ≤ base) : x.Is w base' S := ⟨h.ent.mono hb, h.prs.mono hb⟩
theorem RC.Is.beside (h : x.Is w base S) {g : Nat} {cs : Array Value} {t : TypeId} {z : Nat × Nat} (hg : w.heap[g]? = some (.cells cs t z)) (ht : t ≠ 41 ∧ t ≠ 72) (hf : Frm (· = g) w w') : x.Is w' base S :=
  h.frm hf (fun j hj cs' => by
    have e : j = g := hj
    subst e
    rw [hg]
    constructor
    · intro e; injection e with e; injection e with _ e; exact ht.1 e
    · intro e; injection e with e; injection e with _ e; exact ht.2 e)
theorem RC.zero_is (w : World) (base : Nat) : RC.zero.Is w base CA.none_ := ⟨OwnR.nil _ _ _, OwnR.nil _ _ _⟩
theorem RC.Is.rowE (h : x.Is w base S) : RowR erec w x.A x.n S.E := h.ent.row.1
theorem RC.Is.rowJ (h : x.Is w base S) : RowR prec w x.B x.m S.J := h.prs.row.1
theorem RC.cells_vals {g : Nat} {ty : TypeId} (h : w.heap[g]? = some (vobj ty x.vals)) : w.cell? ⟨g, 0, none⟩ = some (.slice x.A x.n x.c) ∧ w.cell? ⟨g, 1, none⟩ = some (.slice x.B x.m x.d) := ⟨vobj_cell h rfl, vobj_cell h rfl⟩
/-- Where an element lies. -/
theorem RowR.ent {A : Option Addr} {n : Nat} {V : List CE} (h : RowR erec w A n V) {i : Nat} (hi : i < n) : ∃ b off e, A = some ⟨b, off, none⟩ ∧ V[i]? = some e ∧ w.rangeAt b (off + i * 8) e.row := by
  obtain ⟨b, off, a, hA, hV, _, hc⟩ := h.at_ hi
  exact ⟨b, off, a, hA, hV, fun j u hu => hc j u hu⟩
theorem RowR.pr {A : Option Addr} {n : Nat} {V : List (Int × Int)} (h : RowR prec w A n V) {i : Nat} (hi : i < n) : ∃ b off x y, A = some ⟨b, off, none⟩ ∧ V[i]? = some (x, y) ∧ w.cell? ⟨b, off + i * 2, none⟩ = some (.int .i64 x) ∧ w.cell? ⟨b, off + i * 2 + 1, none⟩ = some (.int .i64 y) := by
  obtain ⟨b, off, a, hA, hV, _, hc⟩ := h.at_ hi
  exact ⟨b, off, a.1, a.2, hA, hV, hc 0 _ rfl, hc 1 _ rfl⟩
theorem row_cells {b p : Nat} {e : CE} (h : w.rangeAt b p e.row) : w.cell? ⟨b, p, none⟩ = some (.int .i64 e.k.a) ∧ w.cell? ⟨b, p + 1, none⟩ = some (.int .i64 e.k.b) ∧ w.cell? ⟨b, p + 2, none⟩ = some (.int .i64 e.k.c) ∧ w.cell? ⟨b, p + 3, none⟩ = some (.int .i64 e.id) ∧ w.cell? ⟨b, p + 4, none⟩ = some (.bool e.done) ∧
    w.cell? ⟨b, p + 5, none⟩ = some (.int .i64 e.t.a) ∧ w.cell? ⟨b, p + 6, none⟩ = some (.int .i64 e.t.b) ∧ w.cell? ⟨b, p + 7, none⟩ = some (.int .i64 e.t.c) :=
  ⟨h 0 _ rfl, h 1 _ rfl, h 2 _ rfl, h 3 _ rfl, h 4 _ rfl, h 5 _ rfl, h 6 _ rfl, h 7 _ rfl⟩
end
theorem one_typ {w : World} {g : Nat} {t e : TypeId} {cs : Array Value} {z : Nat × Nat} (hg : w.heap[g]? = some (.cells cs t z)) (ht : t ≠ e) : ∀ j, j = g → ∀ cs', w.heap[j]? ≠ some (.cells cs' e (0, 0)) := fun j hj cs' hc => by
  rw [hj, hg] at hc
  injection hc with hc
  injection hc with _ hc
  exact ht hc
theorem take_more {α : Type} {V : List α} {j : Nat} {z : α} (h : V[j]? = some z) : V.take (j + 1) = V.take j ++ [z] := by
  obtain ⟨hj, e⟩ := List.getElem?_eq_some_iff.1 h
  rw [List.take_succ_eq_append_getElem hj, e]

/-! ### types -/
theorem undX : ∃ fs, Try.prog.underlying 29 = some (.struct fs) := ⟨_, Try.underlying29⟩
theorem sizeX (x : RC) : (Try.prog.info? 29).map (·.size) = some x.vals.length := by rw [x.len_vals]; kernel_rfl
theorem allocX (w : World) : (Instr.alloc 29 true (.tuple #[])).run Try.prog w = .ok (.pointer (some ⟨w.heap.size, 0, none⟩)) (w.alloc (vobj 29 RC.zero.vals)) := by kernel_rfl
theorem buildX (w : World) : (Instr.build 29 #[]).run Try.prog w = .ok (.agg (aggV RC.zero.vals)) w := by kernel_rfl
theorem loadX {w : World} {g : Nat} {x : RC} (h : w.heap[g]? = some (vobj 29 x.vals)) : (loadVar 29 ⟨g, 0, none⟩).run Try.prog w = .ok (.agg (aggV x.vals)) w := by
  obtain ⟨fs, hu⟩ := undX
  exact run_load_agg w _ g x.vals _ h hu rfl (sizeX x)
theorem undRK : ∃ fs, Try.prog.underlying 33 = some (.struct fs) := ⟨_, Try.underlying33⟩
theorem undRT : ∃ fs, Try.prog.underlying 35 = some (.struct fs) := ⟨_, Try.underlying35⟩
theorem sizeRK (k : K3) : (Try.prog.info? 33).map (·.size) = some (v3 k).length := by rw [v3_len]; kernel_rfl
theorem sizeRT (k : K3) : (Try.prog.info? 35).map (·.size) = some (v3 k).length := by rw [v3_len]; kernel_rfl
theorem allocRT (w : World) : (Instr.alloc 35 true (.tuple #[])).run Try.prog w = .ok (.pointer (some ⟨w.heap.size, 0, none⟩)) (w.alloc (vobj 35 (v3 zero3))) := by kernel_rfl
theorem allocRK (w : World) : (Instr.alloc 33 true (.tuple #[])).run Try.prog w = .ok (.pointer (some ⟨w.heap.size, 0, none⟩)) (w.alloc (vobj 33 (v3 zero3))) := by kernel_rfl
theorem buildRT (w : World) : (Instr.build 35 #[]).run Try.prog w = .ok (.agg (aggV (v3 zero3))) w := by kernel_rfl
theorem loadRT {w : World} {g : Nat} {x : K3} (h : w.heap[g]? = some (vobj 35 (v3 x))) : (loadVar 35 ⟨g, 0, none⟩).run Try.prog w = .ok (.agg (aggV (v3 x))) w := by
  obtain ⟨fs, hu⟩ := undRT
  exact run_load_agg w _ g (v3 x) _ h hu rfl (sizeRT x)
/-- '==' of keys. -/
theorem sameRK (x y : K3) (h : wf3 x) (h' : wf3 y) (w : World) : (Op.equalIn 10000 33 (.agg (aggV (v3 x))) (.agg (aggV (v3 y)))).run Try.prog w = .ok (decide (x = y)) w := by
  by_cases e : x = y
  · subst e
    rw [same_yes (P := Try.prog) (t := 33) (ks := i3) 8 (by decide) (by kernel_rfl) (by kernel_rfl) (by kernel_rfl) (by kernel_rfl) (xs := aggV (v3 x)) (v3_flat h) w]
    simp
  · rw [same_no (P := Try.prog) (t := 33) (ks := i3) 8 (by decide) (by kernel_rfl) (by kernel_rfl) (by kernel_rfl) (by kernel_rfl) (xs := aggV (v3 x)) (ys := aggV (v3 y)) (v3_flat h) (v3_flat h') (fun hc => e (v3_inj (aggV_inj hc))) w]
    simp [e]
theorem ent_slice : Try.prog.underlying 26 = some (.slice 41) := by kernel_rfl
theorem ent_info : (Try.prog.info? 41).map (fun i => (i.zero, i.size, i.bytes)) = some (some (.agg (aggV CE.none_.row)), 8, 64) := by kernel_rfl
theorem ent_parts : ∃ i, Try.prog.info? 41 = some i ∧ i.zero = some (.agg (aggV CE.none_.row)) ∧ i.size = 8 ∧ i.bytes = 64 := by
  have h := ent_info
  cases hi : Try.prog.info? 41 with
  | none => rw [hi] at h; cases h
  | some i =>
    rw [hi] at h
    simp only [Option.map_some, Option.some.injEq, Prod.mk.injEq] at h
    exact ⟨i, rfl, h.1, h.2.1, h.2.2⟩
theorem pr_slice : Try.prog.underlying 27 = some (.slice 72) := by kernel_rfl
theorem pr_info : (Try.prog.info? 72).map (fun i => (i.zero, i.size, i.bytes)) = some (some (.agg #[.int .i64 0, .int .i64 0]), 2, 16) := by kernel_rfl
theorem wpList_appE {ops : Array Oper} {rest : List Oper} {o : Oper} {a : Act} {Q : Exit → Act → World → Prop} {w : World} {base m c : Nat} {v : Value} {V U : List CE} {A : Option Addr} (hg : o.guard = none) (s x : Operand)
    (ho : o.op = .call { callee := .builtin .append, args := #[s, x], argTypes := #[26, 26] })
    (hsv : a.eval s = v) (hxv : a.eval x = .slice A m c) (own : EntR w base v V) (src : RowR erec w A m U) (hle : V.length + m ≤ 1048576) (hbase : base ≤ w.heap.size)
    (h : ∀ v' w', EntR w' base v' (V ++ U) → w.grownBy w' v.ownBlock → (v'.ownBlock = v.ownBlock ∨ v'.ownBlock = some w.heap.size) → wpList Try.prog ops Q rest (a.put o.dst v') w') : wpList Try.prog ops Q (o :: rest) a w := by
  obtain ⟨i0, hi0, hz0, hz1, hz2⟩ := ent_parts
  exact wpList_appR hg s x ho ent_slice hi0 hz0 hz1 hz2 rfl (by omega) hsv hxv own src hle hbase h
theorem wpList_appP {ops : Array Oper} {rest : List Oper} {o : Oper} {a : Act} {Q : Exit → Act → World → Prop} {w : World} {base m c : Nat} {v : Value} {V U : List (Int × Int)} {A : Option Addr} (hg : o.guard = none) (s x : Operand)
    (ho : o.op = .call { callee := .builtin .append, args := #[s, x], argTypes := #[27, 27] })
    (hsv : a.eval s = v) (hxv : a.eval x = .slice A m c) (own : PrR w base v V) (src : RowR prec w A m U) (hle : V.length + m ≤ 1048576) (hbase : base ≤ w.heap.size)
    (h : ∀ v' w', PrR w' base v' (V ++ U) → w.grownBy w' v.ownBlock → (v'.ownBlock = v.ownBlock ∨ v'.ownBlock = some w.heap.size) → wpList Try.prog ops Q rest (a.put o.dst v') w') : wpList Try.prog ops Q (o :: rest) a w := by
  obtain ⟨i0, hi0, hz0, hz1, hz2⟩ := info_parts pr_info
  exact wpList_appR hg s x ho pr_slice hi0 hz0 hz1 hz2 rfl (by omega) hsv hxv own src hle hbase h
/-- Results: a value in a cell, a number, a value in a cell. -/
theorem results_c3 {P : Program} {w : World} {fn : Func} {tmps : Array Value} {t t' : TypeId} {c d e : Tmp} {p p' : Addr} {v x v' : Value} (hr : fn.results = #[.cell c t, .tmp d, .cell e t']) (ha : tmps.getD c undef = .pointer (some p)) (hl : (loadVar t p).run P w = .ok v w) (hx : tmps.getD d undef = x) (ha' : tmps.getD e undef = .pointer (some p')) (hl' : (loadVar t' p').run P w = .ok v' w) :
    (results fn tmps).run P w = .ok (.tuple #[v, x, v']) w := by
  unfold results
  rw [hr]
  rw [Array.getD_eq_getD_getElem?] at ha hx ha'
  simp [asAddr, ha, hl, hx, ha', hl']
theorem grown_low {w w' : World} {v : Value} {B : Nat} (hg : w.grownBy w' v.ownBlock) (hB : B ≤ w.heap.size) (hlo : ∀ g, v.ownBlock = some g → B ≤ g) : Below B w w' :=
  ⟨hg.os, hg.tape, hg.output, hg.size, fun j hj => hg.block j (by omega) (fun e => by have := hlo j e.symm; omega)⟩

set_option maxRecDepth 100000 in
set_option maxHeartbeats 1000000 in
theorem rask_zero (X : RC) (k : K3) (id : Int) (w : World) (h0 : k.a = 0) :
    Calls Try.prog 20 #[.agg (aggV X.vals), .agg (aggV (v3 k)), .int .i64 id] w fun r w' => r = .returned (.tuple #[.agg (aggV X.vals), .int .i64 1, .agg (aggV (v3 zero3))]) ∧ Below w.heap.size w w' := by
  obtain ⟨g, hg⟩ : ∃ g, w.heap.size = g := ⟨_, rfl⟩
  obtain ⟨fs, hu⟩ := undX
  have HU := Lib.hid hu
  have hb0 : (k.a == 0) = true := by simp [h0]
  clear h0 hu
  go_enter Try.func20, Try.ntmps20
  go_wp2_with (first
    | (refine wpList_box_agg rfl 29 _ rfl g hg X.vals rfl ?_; intro w1 h1 l1 t1)
    | (refine wpList_box_agg rfl 33 _ rfl (g + 1) t1 (v3 k) rfl ?_; intro w2 h2 l2 t2)
    | (refine wpList_alloc_agg rfl 29 rfl (g + 2) t2 RC.zero.vals (allocX _) ?_; intro w3 h3 l3 t3)
    | (refine wpList_alloc_agg rfl 35 rfl (g + 3) t3 (v3 zero3) (allocRT _) ?_; intro w4 h4 l4 t4;
       have k4 : w4.heap[g + 1]? = some (vobj 33 (v3 k)) := ((l4.block _ (by omega)).trans (l3.block _ (by omega))).trans h2;
       have x4 : w4.heap[g]? = some (vobj 29 X.vals) := (((l4.block _ (by omega)).trans (l3.block _ (by omega))).trans (l2.block _ (by omega))).trans h1;
       have r4 : w4.heap[g + 2]? = some (vobj 29 RC.zero.vals) := (l4.block _ (by omega)).trans h3;
       have B4 : Hid (Below w.heap.size w w4) := Lib.hid (by rw [hg]; exact ((l1.trans (l2.mono (by omega))).trans (l3.mono (by omega))).trans (l4.mono (by omega)));
       obtain ⟨d0, _, _⟩ := cells3 k4; have X4 := Lib.hid x4; have R4 := Lib.hid r4; have H4 := Lib.hid h4; clear h1 h2 h3 h4 l1 l2 l3 l4 t1 t2 t3 k4 x4 r4)
    | (refine wpList_load_agg rfl 29 _ rfl g rfl X.vals ?hy _ HU.out rfl (sizeX _) ?_; (case hy => exact X4.out))
    | (refine wpList_build_agg rfl 35 #[] rfl (v3 zero3) (buildRT _) ?_)
    | (refine wpList_store_agg rfl 29 _ _ rfl (g + 2) RC.zero.vals X.vals rfl rfl ?hz rfl (sizeX _) (RC.ones_vals _) ?_; (case hz => exact R4.out); intro w5 h5 f5 t5;
       have H5 : Hid (w5.heap[g + 3]? = some (vobj 35 (v3 zero3))) := Lib.hid ((f5.block _ (heap_lt H4.out) (show ¬ (g + 3 = g + 2) by omega)).trans H4.out))
    | (refine wpList_store_agg rfl 35 _ _ rfl (g + 3) (v3 zero3) (v3 zero3) rfl rfl ?hz rfl (sizeRT _) (v3_ones _) ?_; (case hz => exact H5.out); intro w6 h6 f6 t6))
  have x6 : w6.heap[g + 2]? = some (vobj 29 X.vals) := (f6.block _ (heap_lt h5) (show ¬ (g + 2 = g + 3) by omega)).trans h5
  refine bodyPost_ret (v := .tuple #[.agg (aggV X.vals), .int .i64 1, .agg (aggV (v3 zero3))]) (results_c3 Try.results20 rfl (loadX x6) rfl rfl (loadRT h6)) rfl ⟨rfl, ?_⟩
  have b4 : Below w.heap.size w w4 := B4.out
  subst hg
  exact (b4.trans (f5.below b4.size (fun j hj e => by have e' : j = w.heap.size + 2 := e; omega))).trans (f6.below (by have := b4.size; omega) (fun j hj e => by have e' : j = w.heap.size + 3 := e; omega))
end Go.Proofs.Ytlphahkmibhidaa
