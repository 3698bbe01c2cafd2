/- Contracts of porpoiselaw10's helpers: conf, do; a bulk that a call made. (Written by wip/tools/gen_law10.py.) -/
import Derived.Test.YtnmcnniilihecaaRef10c
namespace Go.Proofs.Ytnmcnniilihecaa
set_option linter.unusedVariables false
open Go.ChangeShapes Go.WideShapes Go.ChangeAt Go.RowKit

/-- A bulk that was made since w0; of what was there ahead of it nothing has turned. -/
structure OwU (w0 w : World) (b : Nat) (f : Fb) (S : BU) : Prop where
  bul : Bul w b f S
  low : Below w0.heap.size w0 w
  atm : w0.heap.size ≤ f.m
  atr : w0.heap.size ≤ f.rb
section
variable {w0 w w' : World} {b : Nat} {f : Fb} {S S' : BU} {X : RK}
theorem OwU.after (h : OwU w0 w b f S) (hf : Frm f.F w w') (hb : Bul w' b f S') : OwU w0 w' b f S' :=
  ⟨hb, h.low.trans (hf.below h.low.size (fun j hj e => by have := h.atm; have := h.atr; rcases e with e | e <;> omega)), h.atm, h.atr⟩
theorem OwU.below (h : OwU w0 w b f S) (hb : Below w.heap.size w w') : OwU w0 w' b f S := ⟨h.bul.below hb, h.low.trans (hb.mono h.low.size), h.atm, h.atr⟩
theorem OwU.ali (h : OwU w0 w b f S) (ha : Ali w w') : OwU w0 w' b f S := h.below (ali_below ha)
/-- Not a block of a bulk. -/
def Beside (t : TypeId) : Prop := t ≠ 65 ∧ t ≠ 75 ∧ t ≠ 80
instance (t : TypeId) : Decidable (Beside t) := by unfold Beside; infer_instance
theorem Bul.beside (h : Bul w b f S) {g : Nat} {cs : Array Value} {t : TypeId} {z : Nat × Nat} (hg : w.heap[g]? = some (.cells cs t z)) (ht : Beside t) (hf : Frm (· = g) w w') : Bul w' b f S := by
  have nb : b ≠ g := by
    rintro rfl
    rw [h.blk] at hg
    injection hg with hg
    injection hg with _ hg
    exact ht.1 hg.symm
  have np : f.pb ≠ g := by
    rintro rfl
    rw [h.prm.blk] at hg
    injection hg with hg
    injection hg with _ hg
    exact ht.2.1 hg.symm
  exact ⟨(hf.block b h.lt nb).trans h.blk, h.prm.keep (hf.block _ (heap_lt h.prm.blk) np) (hf.block _ h.prm.mp.lt (fun e => h.prm.other hg e.symm)), h.rng.frm hf (fun e => h.rng.other hg ht.2.2 e.symm), h.ok⟩
theorem OwU.beside (h : OwU w0 w b f S) {g : Nat} {cs : Array Value} {t : TypeId} {z : Nat × Nat} (hg : w.heap[g]? = some (.cells cs t z)) (ht : Beside t) (hf : Frm (· = g) w w') (hw : w0.heap.size ≤ g) : OwU w0 w' b f S :=
  ⟨h.bul.beside hg ht hf, h.low.trans (hf.below h.low.size (fun j hj e => by have e' : j = g := e; omega)), h.atm, h.atr⟩
/-- The document's bulk stays, whatever a bulk does. -/
theorem RK.Is.aside {base : Nat} (h : X.Is w base S') (hb : Bul w b f S) (hf : Frm f.F w w') : X.Is w' base S' := h.frm hf (fun j hj cs hc => hb.not hc (by decide) hj)
end

/-- What a deed makes of it. -/
def BU.deed (S : BU) (kd x : Int) : BU := if kd = 1 then S.adm x else if kd = 2 then S.pick else if kd = 3 then S.drop x else S.free x

/-- The configurations of a pool, and of permits. -/
def confP (n q : Int) : Cnf := { Cnf.zero with mode := 1, pool := n, queue := q }
def confS (n : Int) : Cnf := { Cnf.zero with mode := 2, sem := n }

theorem rdrop_is (x : RK) (base : Nat) (S : BU) (z : Int) (w : World) (h : x.Is w base S) (ok : S.Ok) (hb : base ≤ w.heap.size) :
    Calls Try.prog 28 #[.agg (aggV x.vals), .int .i64 z] w fun r w' => ∃ Y : RK, r = .returned (.tuple #[.agg (aggV Y.vals), .bool (decide (z ∈ S.wait))]) ∧ Y.Is w' base (S.drop z) ∧ Below w.heap.size w w' := by
  refine (rdrop_any x z S.wait w h.rowB.1 h.rowB.2 (by have := h.rowB.2; have := ok.lw; have := ok.q8; omega)).mono ?_
  rintro r w' ⟨A, n, c, rfl, hi, hb'⟩
  exact ⟨_, rfl, ⟨h.most, h.que, h.run.below hb', hi.mono hb⟩, hb'⟩
theorem rfree_is (x : RK) (base : Nat) (S : BU) (z : Int) (w : World) (h : x.Is w base S) (ok : S.Ok) (hb : base ≤ w.heap.size) :
    Calls Try.prog 29 #[.agg (aggV x.vals), .int .i64 z] w fun r w' => ∃ Y : RK, r = .returned (.tuple #[.agg (aggV Y.vals), .bool (decide (z ∈ S.run))]) ∧ Y.Is w' base (S.free z) ∧ Below w.heap.size w w' := by
  refine (rfree_any x z S.run w h.rowA.1 h.rowA.2 (by have := h.rowA.2; have := ok.lr; have := ok.m8; omega)).mono ?_
  rintro r w' ⟨A, n, c, rfl, hi, hb'⟩
  exact ⟨_, rfl, ⟨h.most, h.que, hi.mono hb, h.wait.below hb'⟩, hb'⟩

set_option maxRecDepth 100000 in
set_option maxHeartbeats 2000000 in
theorem do_pick (w0 : World) (b : Nat) (f : Fb) (S : BU) (X : RK) (x : Int) (w : World) (h : OwU w0 w b f S) (hX : X.Is w w0.heap.size S) (hx : wf64 x) :
    Calls Try.prog 12 #[.pointer (some ⟨b, 0, none⟩), .agg (aggV X.vals), .agg #[.int .i64 2, .int .i64 x]] w fun r w' => ∃ Y : RK, r = .returned (.tuple #[.agg (aggV Y.vals), .bool true]) ∧ Y.Is w' w0.heap.size S.pick ∧ OwU w0 w' b f S.pick ∧ Frm f.F w w' := by
  obtain ⟨fs, hu⟩ := undR
  have HU := Lib.hid hu
  clear hu
  obtain ⟨g, hg⟩ : ∃ g, w.heap.size = g := ⟨_, rfl⟩
  have HO := Lib.hid h
  have HI := Lib.hid hX
  have HX := Lib.hid hx
  clear h hx hX
  go_enter Try.func12, Try.ntmps12
  go_wp2_with (first
    | (refine wpList_box_agg rfl 31 _ rfl g hg X.vals rfl ?_; intro w1 h1 l1 t1)
    | (refine wpList_box_agg rfl 36 _ rfl (g + 1) t1 [.int .i64 2, .int .i64 x] rfl ?_; intro w2 d2 l2 t2)
    | (refine wpList_alloc_agg rfl 31 rfl (g + 2) t2 RK.zero.vals (allocR _) ?_; intro w3 k3 l3 t3;
       have h3 : w3.heap[g]? = some (vobj 31 X.vals) := ((l3.block g (by omega)).trans (l2.block g (by omega))).trans h1;
       have d3 : w3.heap[g + 1]? = some (vobj 36 [.int .i64 2, .int .i64 x]) := (l3.block (g + 1) (by omega)).trans d2;
       have B3 : Hid (Below w.heap.size w w3) := Lib.hid (by rw [hg]; exact (l1.trans (l2.mono (by omega))).trans (l3.mono (by omega)));
       have O3 := Lib.hid (HO.out.below B3.out);
       have I3 := Lib.hid (HI.out.below B3.out);
       have e0 : w3.cell? ⟨g + 1, 0, none⟩ = some (.int .i64 2) := vobj_cell d3 rfl;
       have e1 : w3.cell? ⟨g + 1, 1, none⟩ = some (.int .i64 x) := vobj_cell d3 rfl;
       have H3 := Lib.hid h3; have K3 := Lib.hid k3; have D3 := Lib.hid d3; have S3 := Lib.hid t3;
       clear h1 d2 l1 l2 l3 t1 t2 t3 h3 k3 d3)
    | (go_at_call 21; refine (pick_bul b f S w3 O3.out.bul).mono ?_; rintro r w4 ⟨rfl, o4, f4⟩;
       have H4 : Hid (w4.heap[g]? = some (vobj 31 X.vals)) := Lib.hid (O3.out.bul.kept f4 H3.out (by decide));
       have K4 : Hid (w4.heap[g + 2]? = some (vobj 31 RK.zero.vals)) := Lib.hid (O3.out.bul.kept f4 K3.out (by decide));
       have D4 : Hid (w4.heap[g + 1]? = some (vobj 36 [.int .i64 2, .int .i64 x])) := Lib.hid (O3.out.bul.kept f4 D3.out (by decide));
       have e4 : w4.cell? ⟨g + 1, 1, none⟩ = some (.int .i64 x) := vobj_cell D4.out rfl;
       have S4 : Hid (g + 3 ≤ w4.heap.size) := Lib.hid (Nat.le_trans (by have := S3.out; omega) f4.size);
       have O4 := Lib.hid (O3.out.after f4 o4); have I4 := Lib.hid (I3.out.aside O3.out.bul f4); have F4 := Lib.hid f4;
       clear o4 f4 e0 e1 H3 K3 D3)
    | (refine wpList_load_agg rfl 31 _ rfl g rfl X.vals ?hy _ HU.out rfl (sizeR _) ?_; (case hy => exact H4.out))
    | (go_at_call 27; refine (rpick_any X w0.heap.size S w4 I4.out HO.out.bul.ok (by have := O4.out.low.size; omega)).mono ?_; rintro r w5 ⟨Y, rfl, i5, b5⟩;
       have K5 := Lib.hid (kb_below K4.out b5);
       have O5 := Lib.hid (O4.out.below b5); have B5 := Lib.hid b5; have I5 := Lib.hid i5;
       obtain ⟨g5, hg5⟩ : ∃ g5, w5.heap.size = g5 := ⟨_, rfl⟩;
       have S5 : Hid (g + 3 ≤ g5) := Lib.hid (by have := b5.size; have := S4.out; omega);
       clear H4 K4 b5 e4 i5)
    | (refine wpList_alloc_agg rfl 31 rfl g5 hg5 RK.zero.vals (allocR _) ?_; intro w6 h6 l6 t6;
       have K6 : Hid (w6.heap[g + 2]? = some (vobj 31 RK.zero.vals)) := Lib.hid ((l6.block (g + 2) (by have := S5.out; omega)).trans K5.out);
       have B6 : Hid (Below w5.heap.size w5 w6) := Lib.hid (by rw [hg5]; exact l6);
       have H6 := Lib.hid h6;
       clear h6 l6 t6 K5)
    | (refine wpList_store_agg rfl 31 _ _ rfl g5 RK.zero.vals Y.vals rfl rfl ?hz rfl (sizeR _) (RK.ones_vals _) ?_; (case hz => exact H6.out); intro w7 h7 f7 t7;
       have K7 : Hid (w7.heap[g + 2]? = some (vobj 31 RK.zero.vals)) := Lib.hid ((f7.block (g + 2) (heap_lt K6.out) (by have := S5.out; show ¬ (g + 2 = g5); omega)).trans K6.out);
       have H7 := Lib.hid h7; have F7 := Lib.hid f7;
       clear h7 f7 t7 K6)
    | (refine wpList_load_agg rfl 31 _ rfl g5 rfl Y.vals ?hy _ HU.out rfl (sizeR _) ?_; (case hy => exact H7.out))
    | (refine wpList_store_agg rfl 31 _ _ rfl (g + 2) RK.zero.vals Y.vals rfl rfl ?hz rfl (sizeR _) (RK.ones_vals _) ?_; (case hz => exact K7.out); intro w8 h8 f8 t8))
  have hw0 := HO.out.low.size
  have s5 := S5.out
  have O7 := ((O5.out.below B6.out).beside H6.out (by decide) F7.out (by omega))
  have I7 := ((I5.out.below B6.out).beside H6.out (by decide) F7.out)
  refine bodyPost_ret (v := .tuple #[.agg (aggV Y.vals), .bool true]) (results_agg1 Try.results12 rfl (loadR h8) (by first | rfl | simp)) rfl ⟨Y, rfl, I7.beside K7.out (by decide) f8, O7.beside K7.out (by decide) f8 (by omega), ?_⟩
  have hs3 := B3.out.size
  refine Frm.trans (F' := (· = g + 2)) (Frm.trans (F' := (· = g5)) (((Frm.trans (Frm.of_below B3.out) F4.out (fun _ _ h => h)).then_below B5.out).then_below B6.out) F7.out (fun j hj e => ?_)) f8 (fun j hj e => ?_)
  · have e' : j = g5 := e
    exfalso; omega
  · have e' : j = g + 2 := e
    exfalso; omega

set_option maxRecDepth 100000 in
set_option maxHeartbeats 2000000 in
theorem do_drop (w0 : World) (b : Nat) (f : Fb) (S : BU) (X : RK) (x : Int) (w : World) (h : OwU w0 w b f S) (hX : X.Is w w0.heap.size S) (hx : wf64 x) :
    Calls Try.prog 12 #[.pointer (some ⟨b, 0, none⟩), .agg (aggV X.vals), .agg #[.int .i64 3, .int .i64 x]] w fun r w' => ∃ Y : RK, r = .returned (.tuple #[.agg (aggV Y.vals), .bool true]) ∧ Y.Is w' w0.heap.size (S.drop x) ∧ OwU w0 w' b f (S.drop x) ∧ Frm f.F w w' := by
  obtain ⟨fs, hu⟩ := undR
  have HU := Lib.hid hu
  clear hu
  obtain ⟨g, hg⟩ : ∃ g, w.heap.size = g := ⟨_, rfl⟩
  have HO := Lib.hid h
  have HI := Lib.hid hX
  have HX := Lib.hid hx
  clear h hx hX
  go_enter Try.func12, Try.ntmps12
  go_wp2_with (first
    | (refine wpList_box_agg rfl 31 _ rfl g hg X.vals rfl ?_; intro w1 h1 l1 t1)
    | (refine wpList_box_agg rfl 36 _ rfl (g + 1) t1 [.int .i64 3, .int .i64 x] rfl ?_; intro w2 d2 l2 t2)
    | (refine wpList_alloc_agg rfl 31 rfl (g + 2) t2 RK.zero.vals (allocR _) ?_; intro w3 k3 l3 t3;
       have h3 : w3.heap[g]? = some (vobj 31 X.vals) := ((l3.block g (by omega)).trans (l2.block g (by omega))).trans h1;
       have d3 : w3.heap[g + 1]? = some (vobj 36 [.int .i64 3, .int .i64 x]) := (l3.block (g + 1) (by omega)).trans d2;
       have B3 : Hid (Below w.heap.size w w3) := Lib.hid (by rw [hg]; exact (l1.trans (l2.mono (by omega))).trans (l3.mono (by omega)));
       have O3 := Lib.hid (HO.out.below B3.out);
       have I3 := Lib.hid (HI.out.below B3.out);
       have e0 : w3.cell? ⟨g + 1, 0, none⟩ = some (.int .i64 3) := vobj_cell d3 rfl;
       have e1 : w3.cell? ⟨g + 1, 1, none⟩ = some (.int .i64 x) := vobj_cell d3 rfl;
       have H3 := Lib.hid h3; have K3 := Lib.hid k3; have D3 := Lib.hid d3; have S3 := Lib.hid t3;
       clear h1 d2 l1 l2 l3 t1 t2 t3 h3 k3 d3)
    | (go_at_call 23; refine (drop_bul b f S x w3 O3.out.bul).mono ?_; rintro r w4 ⟨rfl, o4, f4⟩;
       have H4 : Hid (w4.heap[g]? = some (vobj 31 X.vals)) := Lib.hid (O3.out.bul.kept f4 H3.out (by decide));
       have K4 : Hid (w4.heap[g + 2]? = some (vobj 31 RK.zero.vals)) := Lib.hid (O3.out.bul.kept f4 K3.out (by decide));
       have D4 : Hid (w4.heap[g + 1]? = some (vobj 36 [.int .i64 3, .int .i64 x])) := Lib.hid (O3.out.bul.kept f4 D3.out (by decide));
       have e4 : w4.cell? ⟨g + 1, 1, none⟩ = some (.int .i64 x) := vobj_cell D4.out rfl;
       have S4 : Hid (g + 3 ≤ w4.heap.size) := Lib.hid (Nat.le_trans (by have := S3.out; omega) f4.size);
       have O4 := Lib.hid (O3.out.after f4 o4); have I4 := Lib.hid (I3.out.aside O3.out.bul f4); have F4 := Lib.hid f4;
       clear o4 f4 e0 e1 H3 K3 D3)
    | (refine wpList_load_agg rfl 31 _ rfl g rfl X.vals ?hy _ HU.out rfl (sizeR _) ?_; (case hy => exact H4.out))
    | (go_at_call 28; refine (rdrop_is X w0.heap.size S x w4 I4.out HO.out.bul.ok (by have := O4.out.low.size; omega)).mono ?_; rintro r w5 ⟨Y, rfl, i5, b5⟩;
       have K5 := Lib.hid (kb_below K4.out b5);
       have O5 := Lib.hid (O4.out.below b5); have B5 := Lib.hid b5; have I5 := Lib.hid i5;
       obtain ⟨g5, hg5⟩ : ∃ g5, w5.heap.size = g5 := ⟨_, rfl⟩;
       have S5 : Hid (g + 3 ≤ g5) := Lib.hid (by have := b5.size; have := S4.out; omega);
       clear H4 K4 b5 e4 i5)
    | (refine wpList_alloc_agg rfl 31 rfl g5 hg5 RK.zero.vals (allocR _) ?_; intro w6 h6 l6 t6;
       have K6 : Hid (w6.heap[g + 2]? = some (vobj 31 RK.zero.vals)) := Lib.hid ((l6.block (g + 2) (by have := S5.out; omega)).trans K5.out);
       have B6 : Hid (Below w5.heap.size w5 w6) := Lib.hid (by rw [hg5]; exact l6);
       have H6 := Lib.hid h6;
       clear h6 l6 t6 K5)
    | (refine wpList_store_agg rfl 31 _ _ rfl g5 RK.zero.vals Y.vals rfl rfl ?hz rfl (sizeR _) (RK.ones_vals _) ?_; (case hz => exact H6.out); intro w7 h7 f7 t7;
       have K7 : Hid (w7.heap[g + 2]? = some (vobj 31 RK.zero.vals)) := Lib.hid ((f7.block (g + 2) (heap_lt K6.out) (by have := S5.out; show ¬ (g + 2 = g5); omega)).trans K6.out);
       have H7 := Lib.hid h7; have F7 := Lib.hid f7;
       clear h7 f7 t7 K6)
    | (refine wpList_load_agg rfl 31 _ rfl g5 rfl Y.vals ?hy _ HU.out rfl (sizeR _) ?_; (case hy => exact H7.out))
    | (refine wpList_store_agg rfl 31 _ _ rfl (g + 2) RK.zero.vals Y.vals rfl rfl ?hz rfl (sizeR _) (RK.ones_vals _) ?_; (case hz => exact K7.out); intro w8 h8 f8 t8))
  have hw0 := HO.out.low.size
  have s5 := S5.out
  have O7 := ((O5.out.below B6.out).beside H6.out (by decide) F7.out (by omega))
  have I7 := ((I5.out.below B6.out).beside H6.out (by decide) F7.out)
  refine bodyPost_ret (v := .tuple #[.agg (aggV Y.vals), .bool true]) (results_agg1 Try.results12 rfl (loadR h8) (by first | rfl | simp)) rfl ⟨Y, rfl, I7.beside K7.out (by decide) f8, O7.beside K7.out (by decide) f8 (by omega), ?_⟩
  have hs3 := B3.out.size
  refine Frm.trans (F' := (· = g + 2)) (Frm.trans (F' := (· = g5)) (((Frm.trans (Frm.of_below B3.out) F4.out (fun _ _ h => h)).then_below B5.out).then_below B6.out) F7.out (fun j hj e => ?_)) f8 (fun j hj e => ?_)
  · have e' : j = g5 := e
    exfalso; omega
  · have e' : j = g + 2 := e
    exfalso; omega

set_option maxRecDepth 100000 in
set_option maxHeartbeats 2000000 in
theorem do_free (w0 : World) (b : Nat) (f : Fb) (S : BU) (X : RK) (x : Int) (w : World) (kd : Int) (k1 : (kd == 1) = false) (k2 : (kd == 2) = false) (k3 : (kd == 3) = false) (h : OwU w0 w b f S) (hX : X.Is w w0.heap.size S) (hx : wf64 x) :
    Calls Try.prog 12 #[.pointer (some ⟨b, 0, none⟩), .agg (aggV X.vals), .agg #[.int .i64 kd, .int .i64 x]] w fun r w' => ∃ Y : RK, r = .returned (.tuple #[.agg (aggV Y.vals), .bool true]) ∧ Y.Is w' w0.heap.size (S.free x) ∧ OwU w0 w' b f (S.free x) ∧ Frm f.F w w' := by
  obtain ⟨fs, hu⟩ := undR
  have HU := Lib.hid hu
  clear hu
  obtain ⟨g, hg⟩ : ∃ g, w.heap.size = g := ⟨_, rfl⟩
  have HO := Lib.hid h
  have HI := Lib.hid hX
  have HX := Lib.hid hx
  clear h hx hX
  go_enter Try.func12, Try.ntmps12
  go_wp2_with (first
    | (refine wpList_box_agg rfl 31 _ rfl g hg X.vals rfl ?_; intro w1 h1 l1 t1)
    | (refine wpList_box_agg rfl 36 _ rfl (g + 1) t1 [.int .i64 kd, .int .i64 x] rfl ?_; intro w2 d2 l2 t2)
    | (refine wpList_alloc_agg rfl 31 rfl (g + 2) t2 RK.zero.vals (allocR _) ?_; intro w3 k3 l3 t3;
       have h3 : w3.heap[g]? = some (vobj 31 X.vals) := ((l3.block g (by omega)).trans (l2.block g (by omega))).trans h1;
       have d3 : w3.heap[g + 1]? = some (vobj 36 [.int .i64 kd, .int .i64 x]) := (l3.block (g + 1) (by omega)).trans d2;
       have B3 : Hid (Below w.heap.size w w3) := Lib.hid (by rw [hg]; exact (l1.trans (l2.mono (by omega))).trans (l3.mono (by omega)));
       have O3 := Lib.hid (HO.out.below B3.out);
       have I3 := Lib.hid (HI.out.below B3.out);
       have e0 : w3.cell? ⟨g + 1, 0, none⟩ = some (.int .i64 kd) := vobj_cell d3 rfl;
       have e1 : w3.cell? ⟨g + 1, 1, none⟩ = some (.int .i64 x) := vobj_cell d3 rfl;
       have H3 := Lib.hid h3; have K3 := Lib.hid k3; have D3 := Lib.hid d3; have S3 := Lib.hid t3;
       clear h1 d2 l1 l2 l3 t1 t2 t3 h3 k3 d3)
    | (go_at_call 22; refine (free_bul b f S x w3 O3.out.bul HX.out).mono ?_; rintro r w4 ⟨rfl, o4, f4⟩;
       have H4 : Hid (w4.heap[g]? = some (vobj 31 X.vals)) := Lib.hid (O3.out.bul.kept f4 H3.out (by decide));
       have K4 : Hid (w4.heap[g + 2]? = some (vobj 31 RK.zero.vals)) := Lib.hid (O3.out.bul.kept f4 K3.out (by decide));
       have D4 : Hid (w4.heap[g + 1]? = some (vobj 36 [.int .i64 kd, .int .i64 x])) := Lib.hid (O3.out.bul.kept f4 D3.out (by decide));
       have e4 : w4.cell? ⟨g + 1, 1, none⟩ = some (.int .i64 x) := vobj_cell D4.out rfl;
       have S4 : Hid (g + 3 ≤ w4.heap.size) := Lib.hid (Nat.le_trans (by have := S3.out; omega) f4.size);
       have O4 := Lib.hid (O3.out.after f4 o4); have I4 := Lib.hid (I3.out.aside O3.out.bul f4); have F4 := Lib.hid f4;
       clear o4 f4 e0 e1 H3 K3 D3)
    | (refine wpList_load_agg rfl 31 _ rfl g rfl X.vals ?hy _ HU.out rfl (sizeR _) ?_; (case hy => exact H4.out))
    | (go_at_call 29; refine (rfree_is X w0.heap.size S x w4 I4.out HO.out.bul.ok (by have := O4.out.low.size; omega)).mono ?_; rintro r w5 ⟨Y, rfl, i5, b5⟩;
       have K5 := Lib.hid (kb_below K4.out b5);
       have O5 := Lib.hid (O4.out.below b5); have B5 := Lib.hid b5; have I5 := Lib.hid i5;
       obtain ⟨g5, hg5⟩ : ∃ g5, w5.heap.size = g5 := ⟨_, rfl⟩;
       have S5 : Hid (g + 3 ≤ g5) := Lib.hid (by have := b5.size; have := S4.out; omega);
       clear H4 K4 b5 e4 i5)
    | (refine wpList_alloc_agg rfl 31 rfl g5 hg5 RK.zero.vals (allocR _) ?_; intro w6 h6 l6 t6;
       have K6 : Hid (w6.heap[g + 2]? = some (vobj 31 RK.zero.vals)) := Lib.hid ((l6.block (g + 2) (by have := S5.out; omega)).trans K5.out);
       have B6 : Hid (Below w5.heap.size w5 w6) := Lib.hid (by rw [hg5]; exact l6);
       have H6 := Lib.hid h6;
       clear h6 l6 t6 K5)
    | (refine wpList_store_agg rfl 31 _ _ rfl g5 RK.zero.vals Y.vals rfl rfl ?hz rfl (sizeR _) (RK.ones_vals _) ?_; (case hz => exact H6.out); intro w7 h7 f7 t7;
       have K7 : Hid (w7.heap[g + 2]? = some (vobj 31 RK.zero.vals)) := Lib.hid ((f7.block (g + 2) (heap_lt K6.out) (by have := S5.out; show ¬ (g + 2 = g5); omega)).trans K6.out);
       have H7 := Lib.hid h7; have F7 := Lib.hid f7;
       clear h7 f7 t7 K6)
    | (refine wpList_load_agg rfl 31 _ rfl g5 rfl Y.vals ?hy _ HU.out rfl (sizeR _) ?_; (case hy => exact H7.out))
    | (refine wpList_store_agg rfl 31 _ _ rfl (g + 2) RK.zero.vals Y.vals rfl rfl ?hz rfl (sizeR _) (RK.ones_vals _) ?_; (case hz => exact K7.out); intro w8 h8 f8 t8))
  have hw0 := HO.out.low.size
  have s5 := S5.out
  have O7 := ((O5.out.below B6.out).beside H6.out (by decide) F7.out (by omega))
  have I7 := ((I5.out.below B6.out).beside H6.out (by decide) F7.out)
  refine bodyPost_ret (v := .tuple #[.agg (aggV Y.vals), .bool true]) (results_agg1 Try.results12 rfl (loadR h8) (by first | rfl | simp)) rfl ⟨Y, rfl, I7.beside K7.out (by decide) f8, O7.beside K7.out (by decide) f8 (by omega), ?_⟩
  have hs3 := B3.out.size
  refine Frm.trans (F' := (· = g + 2)) (Frm.trans (F' := (· = g5)) (((Frm.trans (Frm.of_below B3.out) F4.out (fun _ _ h => h)).then_below B5.out).then_below B6.out) F7.out (fun j hj e => ?_)) f8 (fun j hj e => ?_)
  · have e' : j = g5 := e
    exfalso; omega
  · have e' : j = g + 2 := e
    exfalso; omega

theorem sets_rk {w : World} {g : Nat} {ty : TypeId} {x : RK} (h : w.heap[g]? = some (vobj ty x.vals)) (y : RK) :
    ((((w.setCell ⟨g, 0, none⟩ (.int .i64 y.most)).setCell ⟨g, 1, none⟩ (.int .i64 y.que)).setCell ⟨g, 2, none⟩ (.slice y.A y.n y.c)).setCell ⟨g, 3, none⟩ (.slice y.B y.m y.d)).heap[g]? = some (vobj ty y.vals) :=
  vobj_set (vobj_set (vobj_set (vobj_set h 0 _) 1 _) 2 _) 3 _
theorem Frm.on {a w : World} {b : Nat} (h : Frm (· = b) a w) (o : Nat) (u : Value) : Frm (· = b) a (w.setCell ⟨b, o, none⟩ u) := h.set (p := ⟨b, o, none⟩) rfl u
theorem sets_frm (w : World) (g : Nat) (u0 u1 u2 u3 : Value) :
    Frm (· = g) w ((((w.setCell ⟨g, 0, none⟩ u0).setCell ⟨g, 1, none⟩ u1).setCell ⟨g, 2, none⟩ u2).setCell ⟨g, 3, none⟩ u3) := ((((Frm.refl (· = g) w).on 0 u0).on 1 u1).on 2 u2).on 3 u3

set_option maxRecDepth 100000 in
set_option maxHeartbeats 2000000 in
theorem do_admit (w0 : World) (b : Nat) (f : Fb) (S : BU) (X : RK) (x : Int) (w : World) (h : OwU w0 w b f S) (hX : X.Is w w0.heap.size S) (hx : wf64 x) :
    Calls Try.prog 12 #[.pointer (some ⟨b, 0, none⟩), .agg (aggV X.vals), .agg #[.int .i64 1, .int .i64 x]] w fun r w' => ∃ Y : RK, r = .returned (.tuple #[.agg (aggV Y.vals), .bool true]) ∧ Y.Is w' w0.heap.size (S.adm x) ∧ OwU w0 w' b f (S.adm x) ∧ Frm f.F w w' := by
  obtain ⟨fs, hu⟩ := undR
  have HU := Lib.hid hu
  clear hu
  obtain ⟨g, hg⟩ : ∃ g, w.heap.size = g := ⟨_, rfl⟩
  have HO := Lib.hid h
  have HI := Lib.hid hX
  have HX := Lib.hid hx
  clear h hx hX
  go_enter Try.func12, Try.ntmps12
  go_wp2_with (first
    | (refine wpList_box_agg rfl 31 _ rfl g hg X.vals rfl ?_; intro w1 h1 l1 t1)
    | (refine wpList_box_agg rfl 36 _ rfl (g + 1) t1 [.int .i64 1, .int .i64 x] rfl ?_; intro w2 d2 l2 t2)
    | (refine wpList_alloc_agg rfl 31 rfl (g + 2) t2 RK.zero.vals (allocR _) ?_; intro w3 k3 l3 t3;
       have h3 : w3.heap[g]? = some (vobj 31 X.vals) := ((l3.block g (by omega)).trans (l2.block g (by omega))).trans h1;
       have d3 : w3.heap[g + 1]? = some (vobj 36 [.int .i64 1, .int .i64 x]) := (l3.block (g + 1) (by omega)).trans d2;
       have B3 : Hid (Below w.heap.size w w3) := Lib.hid (by rw [hg]; exact (l1.trans (l2.mono (by omega))).trans (l3.mono (by omega)));
       have O3 := Lib.hid (HO.out.below B3.out);
       have I3 := Lib.hid (HI.out.below B3.out);
       have e0 : w3.cell? ⟨g + 1, 0, none⟩ = some (.int .i64 1) := vobj_cell d3 rfl;
       have e1 : w3.cell? ⟨g + 1, 1, none⟩ = some (.int .i64 x) := vobj_cell d3 rfl;
       have H3 := Lib.hid h3; have K3 := Lib.hid k3; have D3 := Lib.hid d3; have S3 := Lib.hid t3;
       clear h1 d2 l1 l2 l3 t1 t2 t3 h3 k3 d3)
    | (go_at_call 20; refine (admit_bul b f S x w3 O3.out.bul HX.out).mono ?_; rintro r w4 ⟨v4, rfl, j4, o4, f4⟩;
       have H4 : Hid (w4.heap[g]? = some (vobj 31 X.vals)) := Lib.hid (O3.out.bul.kept f4 H3.out (by decide));
       have K4 : Hid (w4.heap[g + 2]? = some (vobj 31 RK.zero.vals)) := Lib.hid (O3.out.bul.kept f4 K3.out (by decide));
       have D4 : Hid (w4.heap[g + 1]? = some (vobj 36 [.int .i64 1, .int .i64 x])) := Lib.hid (O3.out.bul.kept f4 D3.out (by decide));
       have e4 : w4.cell? ⟨g + 1, 1, none⟩ = some (.int .i64 x) := vobj_cell D4.out rfl;
       have S4 : Hid (g + 3 ≤ w4.heap.size) := Lib.hid (Nat.le_trans (by have := S3.out; omega) f4.size);
       have O4 := Lib.hid (O3.out.after f4 o4); have I4 := Lib.hid (I3.out.aside O3.out.bul f4); have F4 := Lib.hid f4; have J4 := Lib.hid j4;
       clear o4 f4 e0 e1 H3 K3 D3 j4)
    | (refine wpList_load_agg rfl 31 _ rfl g rfl X.vals ?hy _ HU.out rfl (sizeR _) ?_; (case hy => exact H4.out))
    | (go_at_call 26; refine (radmit_any X w0.heap.size S x w4 I4.out HO.out.bul.ok (by have := O4.out.low.size; omega) HX.out).mono ?_; rintro r w5 ⟨Y, v5, rfl, i5, v5', b5⟩;
       have K5 := Lib.hid (kb_below K4.out b5);
       have O5 := Lib.hid (O4.out.below b5); have B5 := Lib.hid b5; have I5 := Lib.hid i5; have J5 := Lib.hid (J4.out.below b5); have V5 := Lib.hid v5';
       obtain ⟨g5, hg5⟩ : ∃ g5, w5.heap.size = g5 := ⟨_, rfl⟩;
       have S5 : Hid (g + 3 ≤ g5) := Lib.hid (by have := b5.size; have := S4.out; omega);
       clear H4 K4 b5 e4 i5 J4 v5')
    | (refine wpList_alloc_agg rfl 31 rfl g5 hg5 RK.zero.vals (allocR _) ?_; intro w6 h6 l6 t6;
       have K6 : Hid (w6.heap[g + 2]? = some (vobj 31 RK.zero.vals)) := Lib.hid ((l6.block (g + 2) (by have := S5.out; omega)).trans K5.out);
       have B6 : Hid (Below w5.heap.size w5 w6) := Lib.hid (by rw [hg5]; exact l6);
       have H6 := Lib.hid h6;
       clear h6 l6 t6 K5)
    | (refine wpList_store_agg rfl 31 _ _ rfl g5 RK.zero.vals Y.vals rfl rfl ?hz rfl (sizeR _) (RK.ones_vals _) ?_; (case hz => exact H6.out); intro w7 h7 f7 t7;
       have K7 : Hid (w7.heap[g + 2]? = some (vobj 31 RK.zero.vals)) := Lib.hid ((f7.block (g + 2) (heap_lt K6.out) (by have := S5.out; show ¬ (g + 2 = g5); omega)).trans K6.out);
       have H7 := Lib.hid h7; have F7 := Lib.hid f7;
       clear h7 f7 t7 K6))

  have s5 := S5.out
  have h6k := H6.out
  have j7 := (J5.out.below B6.out).frm F7.out (fun j hj cs hc => by rw [show j = g5 from hj, h6k] at hc; cases hc)
  have p7 := (V5.out.below B6.out).frm F7.out (fun j hj cs hc => by rw [show j = g5 from hj, h6k] at hc; cases hc)
  obtain ⟨A4, n4, c4, hv4, r4, l4, _, _⟩ := own_row' j7
  obtain ⟨A5, n5, c5, hv5, r5, l5, _, _⟩ := own_row' p7
  subst hv4 hv5
  have SM : Hid (∀ v, Frm (· = g + 2) w7 v → Calls Try.prog 16 #[.slice A4 n4 c4, .slice A5 n5 c5] v fun r w' => r = .returned (.bool true) ∧ Ali v w') := Lib.hid (fun v hv => by
    have hk : ∀ j, j = g + 2 → ∀ cs, w7.heap[j]? ≠ some (.cells cs 3 (0, 0)) := fun j hj cs hc => by rw [hj, K7.out] at hc; cases hc
    have := same_any A4 A5 n4 c4 n5 c5 _ _ v (j7.frm hv hk).row.1 l4.out (p7.frm hv hk).row.1 l5.out
    rwa [show decide (S.lets x = S.lets x) = true by simp] at this)
  have hg52 : g5 ≠ g + 2 := by omega
  clear j7 p7 r4 l4 r5 l5 h6k
  go_region_held3 (fun v => v.cell? ⟨g5, 0, none⟩ = some (.int .i64 Y.most) ∧ v.cell? ⟨g5, 1, none⟩ = some (.int .i64 Y.que) ∧ v.cell? ⟨g5, 2, none⟩ = some (.slice Y.A Y.n Y.c) ∧ v.cell? ⟨g5, 3, none⟩ = some (.slice Y.B Y.m Y.d))
    (first
      | with_reducible exact RK.cells_vals h9
      | (have hh9 := h9; exact RK.cells_vals (((sets_frm w9 (g + 2) _ _ _ _).block g5 (heap_lt h9) hg52).trans h9))
      | exact RK.cells_vals (w := World.drew _) H7.out)
    (first
      | (go_at_call 16; refine (SM.out _ (Frm.of_ali (drew_ali _))).mono ?_; rintro r w9 ⟨rfl, a9⟩; have h9 : w9.heap[g5]? = some (vobj 31 Y.vals) := (by rw [a9.heap]; exact H7.out); have k9 : w9.heap[g + 2]? = some (vobj 31 RK.zero.vals) := (by rw [a9.heap]; exact K7.out); obtain ⟨y0, y1, y2, y3⟩ := RK.cells_vals k9; have yf0 := vobj_frozen k9 0; have yf1 := vobj_frozen k9 1; have yf2 := vobj_frozen k9 2; have yf3 := vobj_frozen k9 3))
  all_goals
    have h8 := sets_rk k9 Y
    have f8 : Frm (· = g + 2) w7 ((((w9.setCell ⟨g + 2, 0, none⟩ (.int .i64 Y.most)).setCell ⟨g + 2, 1, none⟩ (.int .i64 Y.que)).setCell ⟨g + 2, 2, none⟩ (.slice Y.A Y.n Y.c)).setCell ⟨g + 2, 3, none⟩ (.slice Y.B Y.m Y.d)) := (Frm.of_ali ((drew_ali w7).trans a9)).trans (sets_frm w9 (g + 2) _ _ _ _) (fun _ _ h => h)
    have H8 := Lib.hid h8
    have F8 := Lib.hid f8
    clear h8 f8 y0 y1 y2 y3 yf0 yf1 yf2 yf3
    generalize ((((w9.setCell ⟨g + 2, 0, none⟩ (.int .i64 Y.most)).setCell ⟨g + 2, 1, none⟩ (.int .i64 Y.que)).setCell ⟨g + 2, 2, none⟩ (.slice Y.A Y.n Y.c)).setCell ⟨g + 2, 3, none⟩ (.slice Y.B Y.m Y.d)) = w8 at *
    go_wp2
    have h8 := H8.out
    have f8 := F8.out
    have hw0 := HO.out.low.size
    have s5 := S5.out
    have O7 := ((O5.out.below B6.out).beside H6.out (by decide) F7.out (by omega))
    have I7 := ((I5.out.below B6.out).beside H6.out (by decide) F7.out)
    refine bodyPost_ret (v := .tuple #[.agg (aggV Y.vals), .bool true]) (results_agg1 Try.results12 rfl (loadR h8) (by first | rfl | simp)) rfl ⟨Y, rfl, I7.beside K7.out (by decide) f8, O7.beside K7.out (by decide) f8 (by omega), ?_⟩
    have hs3 := B3.out.size
    refine Frm.trans (F' := (· = g + 2)) (Frm.trans (F' := (· = g5)) (((Frm.trans (Frm.of_below B3.out) F4.out (fun _ _ h => h)).then_below B5.out).then_below B6.out) F7.out (fun j hj e => ?_)) f8 (fun j hj e => ?_)
    · have e' : j = g5 := e
      exfalso; omega
    · have e' : j = g + 2 := e
      exfalso; omega

end Go.Proofs.Ytnmcnniilihecaa
