/- Contracts of porpoiseref12: Settle. -/
import Derived.Test.YtlphahkmibhidaaRef12c
namespace Go.Proofs.Ytlphahkmibhidaa
set_option linter.unusedVariables false
open Go.ChangeShapes Go.WideShapes Go.ChangeAt Go.RowKit

theorem undE : ∃ fs, Try.prog.underlying 41 = some (.struct fs) := ⟨_, Try.underlying41⟩
theorem sizeE (e : CE) : (Try.prog.info? 41).map (·.size) = some e.row.length := by rw [show e.row.length = 8 from rfl]; kernel_rfl
theorem size_bool : (Try.prog.info? 4).map (·.size) = some 1 := by kernel_rfl
theorem allocE (w : World) : (Instr.alloc 41 true (.tuple #[])).run Try.prog w = .ok (.pointer (some ⟨w.heap.size, 0, none⟩)) (w.alloc (vobj 41 CE.none_.row)) := by kernel_rfl
/-- A new slice of one entry. -/
theorem sliceE (w : World) (e : CE) : (Instr.buildSlice 26 1 #[(0, .agg (aggV e.row))]).run Try.prog w = .ok (.slice (some ⟨w.heap.size, 0, none⟩) 1 1) (w.alloc (.cells (aggV e.row) 41)) := by kernel_rfl
theorem wpList_slice1 {P : Program} {ops : Array Oper} {rest : List Oper} {o : Oper} {a : Act} {w : World} {Q : Exit → Act → World → Prop} (hg : o.guard = none) (t : TypeId) (x : Operand) (hop : o.op = .buildSlice t 1 #[(0, x)]) (v u : Value) (ob : Obj) (hx : a.eval x = v) (hrun : (Instr.buildSlice t 1 #[(0, v)]).run P w = .ok u (w.alloc ob))
    (h : wpList P ops Q rest (a.put o.dst u) (w.alloc ob)) : wpList P ops Q (o :: rest) a w := by
  refine wpList_plain hg fun K' hK' => ?_
  unfold Oper.wp
  simp [execOp, hop, hx, hrun, Result.andThen]
  exact hK' _ _ h
/-- Of what was there only blocks of one type have turned. -/
def Typ (w : World) (e : TypeId) (j : Nat) : Prop := ∃ cs, w.heap[j]? = some (.cells cs e (0, 0))
theorem grown_typ {α : Type} {R : Rec α} {w w' : World} {base : Nat} {e : TypeId} {v : Value} {V : List α} (own : OwnR R w base e v V) (gr : w.grownBy w' v.ownBlock) : Frm (Typ w e) w w' :=
  ⟨gr.os, gr.tape, gr.output, gr.size, fun j hj hn => gr.block j hj (fun h => hn (own.block h.symm))⟩
theorem grown_int {w w' : World} {base : Nat} {v : Value} {V : List Int} (own : Ints w base v V) (gr : w.grownBy w' v.ownBlock) : Frm (Typ w 3) w w' :=
  ⟨gr.os, gr.tape, gr.output, gr.size, fun j hj hn => gr.block j hj (fun h => hn (own.block h.symm))⟩
theorem typ_ne {w : World} {e e' : TypeId} (h : e ≠ e') : ∀ j, Typ w e j → ∀ cs, w.heap[j]? ≠ some (.cells cs e' (0, 0)) := fun j ⟨cs, hc⟩ cs' hc' => by
  rw [hc] at hc'
  injection hc' with hc'
  injection hc' with _ hc'
  exact h hc'
theorem typ_kept {w w' : World} {e t : TypeId} (hf : Frm (Typ w e) w w') {j : Nat} {cs : Array Value} {z : Nat × Nat} (hj : w.heap[j]? = some (.cells cs t z)) (ht : t ≠ e) : w'.heap[j]? = some (.cells cs t z) := by
  refine (hf.block j (heap_lt hj) (fun ⟨cs', hc'⟩ => ?_)).trans hj
  rw [hj] at hc'
  injection hc' with hc'
  injection hc' with _ hc'
  exact ht hc'
/-- What the first loop knows. -/
structure RSe (w wr : World) (g : Nat) (S : CA) (id : Int) (t : K3) (A : Option Addr) (n c : Nat) (B : Option Addr) (m d : Nat) (j : Nat) (A' : Option Addr) (n' c' : Nat) : Prop where
  own : EntR wr w.heap.size (.slice A' n' c') ((S.E.take j).map (fun e => e.sets id t))
  out : wr.heap[g + 3]? = some (vobj 29 (RC.mk A' n' c' none 0 0).vals)
  src : wr.heap[g]? = some (vobj 29 (RC.mk A n c B m d).vals)
  tol : wr.heap[g + 1]? = some (vobj 35 (v3 t))
  res : wr.heap[g + 2]? = some (vobj 29 RC.zero.vals)
  low : Below w.heap.size w wr
/-- Of who joined, those of id, and the others. -/
def theirs (id : Int) (V : List (Int × Int)) : List Int := (V.filter (fun p => decide (p.1 = id))).map (·.2)
def others (id : Int) (V : List (Int × Int)) : List (Int × Int) := V.filter (fun p => !decide (p.1 = id))
theorem theirs_yes (id y : Int) (V : List (Int × Int)) : theirs id (V ++ [(id, y)]) = theirs id V ++ [y] := by simp [theirs]
theorem theirs_no {id x : Int} (y : Int) (V : List (Int × Int)) (h : x ≠ id) : theirs id (V ++ [(x, y)]) = theirs id V := by simp [theirs, h]
theorem others_yes (id y : Int) (V : List (Int × Int)) : others id (V ++ [(id, y)]) = others id V := by simp [others]
theorem others_no {id x : Int} (y : Int) (V : List (Int × Int)) (h : x ≠ id) : others id (V ++ [(x, y)]) = others id V ++ [(x, y)] := by simp [others, h]
theorem theirs_len (id : Int) (V : List (Int × Int)) (j : Nat) : (theirs id (V.take j)).length ≤ V.length := by unfold theirs; rw [List.length_map]; exact filter_le _ V j
theorem others_len (id : Int) (V : List (Int × Int)) (j : Nat) : (others id (V.take j)).length ≤ V.length := filter_le _ V j
/-- What the second loop knows. -/
structure RSj (w wr : World) (g : Nat) (S : CA) (id : Int) (t : K3) (A : Option Addr) (n c : Nat) (B : Option Addr) (m d : Nat) (j : Nat) (A' : Option Addr) (n' c' : Nat) (B' : Option Addr) (m' d' : Nat) (v : Value) : Prop where
  own : EntR wr w.heap.size (.slice A' n' c') (S.E.map (fun e => e.sets id t))
  ownj : PrR wr w.heap.size (.slice B' m' d') (others id (S.J.take j))
  ownl : Ints wr w.heap.size v (theirs id (S.J.take j))
  out : wr.heap[g + 3]? = some (vobj 29 (RC.mk A' n' c' B' m' d').vals)
  src : wr.heap[g]? = some (vobj 29 (RC.mk A n c B m d).vals)
  res : wr.heap[g + 2]? = some (vobj 29 RC.zero.vals)
  low : Below w.heap.size w wr
section
variable {w wr w1 w2 w3 : World} {g n c m d j n' c' m' d' n2 c2 : Nat} {S : CA} {id : Int} {t : K3} {A B A' B' A2 : Option Addr} {v v2 : Value} {e : CE} {x y : Int}
/-- A round of the first loop. -/
theorem RSe.step (h : RSe w wr g S id t A n c B m d j A' n' c') (hg : w.heap.size = g) (hV : S.E[j]? = some e) (hb : Below wr.heap.size wr w1) (hown : EntR w1 w.heap.size (.slice A' n' c') ((S.E.take j).map (fun e => e.sets id t))) (own' : EntR w2 w.heap.size (.slice A2 n2 c2) ((S.E.take j).map (fun e => e.sets id t) ++ [e.sets id t])) (gr : w1.grownBy w2 (Value.slice A' n' c').ownBlock) :
    w2.heap[g + 3]? = some (vobj 29 (RC.mk A' n' c' none 0 0).vals) ∧ RSe w (w2.setCell ⟨g + 3, 0, none⟩ (.slice A2 n2 c2)) g S id t A n c B m d (j + 1) A2 n2 c2 := by
  have hf := grown_typ hown gr
  have k3 := typ_kept hf (kb_below h.out hb) (by decide)
  have f3 : Frm (· = g + 3) w2 (w2.setCell ⟨g + 3, 0, none⟩ (.slice A2 n2 c2)) := (Frm.refl (· = g + 3) w2).set (p := ⟨g + 3, 0, none⟩) rfl _
  have l2 : Below w.heap.size w w2 := (h.low.trans (hb.mono h.low.size)).trans (grown_low gr (Nat.le_trans h.low.size hb.size) hown.low)
  refine ⟨k3, ?_, setX0 k3 A2 n2 c2, (heap_set_other (show g ≠ g + 3 by omega) _).trans (typ_kept hf (kb_below h.src hb) (by decide)), (heap_set_other (show g + 1 ≠ g + 3 by omega) _).trans (typ_kept hf (kb_below h.tol hb) (by decide)), (heap_set_other (show g + 2 ≠ g + 3 by omega) _).trans (typ_kept hf (kb_below h.res hb) (by decide)), l2.trans (f3.below l2.size (fun i hi e' => by have : i = g + 3 := e'; omega))⟩
  rw [take_more hV, List.map_append]
  exact own'.frm f3 (one_typ k3 (by decide))
/-- One who joined id. -/
theorem RSj.yes (h : RSj w wr g S id t A n c B m d j A' n' c' B' m' d' v) (hV : S.J[j]? = some (id, y)) (hb : Below wr.heap.size wr w1) (hown : Ints w1 w.heap.size v (theirs id (S.J.take j))) (own' : Ints w2 w.heap.size v2 (theirs id (S.J.take j) ++ [y])) (gr : w1.grownBy w2 v.ownBlock) :
    RSj w w2 g S id t A n c B m d (j + 1) A' n' c' B' m' d' v2 := by
  have hf := grown_int hown gr
  refine ⟨(h.own.below hb).frm hf (typ_ne (by decide)), ?_, ?_, typ_kept hf (kb_below h.out hb) (by decide), typ_kept hf (kb_below h.src hb) (by decide), typ_kept hf (kb_below h.res hb) (by decide), (h.low.trans (hb.mono h.low.size)).trans (grown_below gr (Nat.le_trans h.low.size hb.size) hown.low)⟩
  · rw [take_more hV, others_yes]
    exact (h.ownj.below hb).frm hf (typ_ne (by decide))
  · rw [take_more hV, theirs_yes]
    exact own'
/-- One who joined another one. -/
theorem RSj.no (h : RSj w wr g S id t A n c B m d j A' n' c' B' m' d' v) (hg : w.heap.size = g) (hV : S.J[j]? = some (x, y)) (hx : x ≠ id) (hb : Below wr.heap.size wr w1) (hown : PrR w1 w.heap.size (.slice B' m' d') (others id (S.J.take j))) (own' : PrR w2 w.heap.size (.slice A2 n2 c2) (others id (S.J.take j) ++ [(x, y)])) (gr : w1.grownBy w2 (Value.slice B' m' d').ownBlock) :
    w2.heap[g + 3]? = some (vobj 29 (RC.mk A' n' c' B' m' d').vals) ∧ RSj w (w2.setCell ⟨g + 3, 1, none⟩ (.slice A2 n2 c2)) g S id t A n c B m d (j + 1) A' n' c' A2 n2 c2 v := by
  have hf := grown_typ hown gr
  have k3 := typ_kept hf (kb_below h.out hb) (by decide)
  have f3 : Frm (· = g + 3) w2 (w2.setCell ⟨g + 3, 1, none⟩ (.slice A2 n2 c2)) := (Frm.refl (· = g + 3) w2).set (p := ⟨g + 3, 1, none⟩) rfl _
  have l2 : Below w.heap.size w w2 := (h.low.trans (hb.mono h.low.size)).trans (grown_low gr (Nat.le_trans h.low.size hb.size) hown.low)
  refine ⟨k3, ((h.own.below hb).frm hf (typ_ne (by decide))).frm f3 (one_typ k3 (by decide)), ?_, ?_, setX1 k3 A2 n2 c2, (heap_set_other (show g ≠ g + 3 by omega) _).trans (typ_kept hf (kb_below h.src hb) (by decide)), (heap_set_other (show g + 2 ≠ g + 3 by omega) _).trans (typ_kept hf (kb_below h.res hb) (by decide)), l2.trans (f3.below l2.size (fun i hi e' => by have : i = g + 3 := e'; omega))⟩
  · rw [take_more hV, others_no y _ hx]
    exact own'.frm f3 (one_typ k3 (by decide))
  · rw [take_more hV, theirs_no y _ hx]
    exact ((h.ownl.below hb).frm hf (typ_ne (by decide))).frm f3 (one_typ k3 (by decide))
end
set_option maxRecDepth 100000 in
set_option maxHeartbeats 1500000 in
theorem rsettle_any (X : RC) (base : Nat) (S : CA) (id : Int) (t : K3) (w : World) (h : X.Is w base S) (hb : base ≤ w.heap.size) (ok : S.Ok) (hs : S.size ≤ 1000) :
    Calls Try.prog 21 #[.agg (aggV X.vals), .int .i64 id, .agg (aggV (v3 t))] w fun r w' => ∃ (Y : RC) (v : Value), r = .returned (.tuple #[.agg (aggV Y.vals), v]) ∧ Y.Is w' base (S.settle id t) ∧ Ints w' w.heap.size v (S.joined id) ∧ Below w.heap.size w w' := by
  obtain ⟨g, hg⟩ : ∃ g, w.heap.size = g := ⟨_, rfl⟩
  obtain ⟨A, n, c, B, m, d⟩ := X
  obtain ⟨fs, hu⟩ := undX
  have HU := Lib.hid hu
  obtain ⟨fse, hue⟩ := undE
  have HUE := Lib.hid hue
  obtain ⟨fst, hut⟩ := undRT
  have HUT := Lib.hid hut
  have hnl : n ≤ 1000 := by have := h.rowE.1; simp only at this; unfold CA.size at hs; omega
  have hml : m ≤ 1000 := by have := h.rowJ.1; simp only at this; have := ok.le; unfold CA.size at hs; omega
  have hlE : S.E.length = n := h.rowE.1
  have hlJ : S.J.length = m := h.rowJ.1
  have IS := Lib.hid h
  have OK := Lib.hid ok
  have HB := Lib.hid hb
  have LE := Lib.hid hlE
  have LJ := Lib.hid hlJ
  have HG := Lib.hid hg
  clear hu hue hut h hb hs hlE hlJ ok
  go_enter Try.func21, Try.ntmps21
  go_wp2_with (first
    | (refine wpList_box_agg rfl 29 _ rfl g hg (RC.mk A n c B m d).vals rfl ?_; intro w1 h1 l1 t1)
    | (refine wpList_box_agg rfl 35 _ rfl (g + 1) t1 (v3 t) rfl ?_; intro w2 h2 l2 t2)
    | (refine wpList_alloc_agg rfl 29 rfl (g + 2) t2 RC.zero.vals (allocX _) ?_; intro w3 h3 l3 t3)
    | (refine wpList_build_agg rfl 29 #[] rfl RC.zero.vals (buildX _) ?_)
    | (refine wpList_alloc_agg rfl 29 rfl (g + 3) t3 RC.zero.vals (allocX _) ?_; intro w4 h4 l4 t4)
    | (refine wpList_store_agg rfl 29 _ _ rfl (g + 3) RC.zero.vals RC.zero.vals rfl rfl ?hz rfl (sizeX _) (RC.ones_vals _) ?_; (case hz => exact h4); intro w5 h5 f5 t5))
  have ST : Hid (RSe w w5 g S id t A n c B m d 0 none 0 0) := Lib.hid (by
    subst hg
    refine ⟨OwnR.nil _ _ _, h5, ?_, ?_, ?_, ((l1.trans (l2.mono (by omega))).trans (l3.mono (by omega))).trans ((l4.mono (by omega)).trans (f5.below (by omega) (fun j hj e => by have e' : j = w.heap.size + 3 := e; omega)))⟩
    · rw [f5.block _ (by omega) (show ¬ (w.heap.size = w.heap.size + 3) by omega)]
      exact (((l4.block _ (by omega)).trans (l3.block _ (by omega))).trans (l2.block _ (by omega))).trans h1
    · rw [f5.block _ (by omega) (show ¬ (w.heap.size + 1 = w.heap.size + 3) by omega)]
      exact ((l4.block _ (by omega)).trans (l3.block _ (by omega))).trans h2
    · rw [f5.block _ (by omega) (show ¬ (w.heap.size + 2 = w.heap.size + 3) by omega)]
      exact (l4.block _ (by omega)).trans h3)
  clear h1 h2 h3 h4 h5 l1 l2 l3 l4 f5 t1 t2 t3 t4 t5
  go_loopg [9] n (fun q v9 wr => ∃ (j : Nat) (A' : Option Addr) (n' c' : Nat), j + q = n ∧ v9 = .int .i64 j ∧ RSe w wr g S id t A n c B m d j A' n' c')
  case atStart => exact ⟨0, none, 0, 0, by omega, rfl, ST.out⟩
  case round =>
    obtain ⟨j, A', n', c', hj, rfl, hr⟩ := hrel
    have HJ := Lib.hid hj
    have HR := Lib.hid hr
    obtain ⟨c0, c1⟩ := RC.cells_vals hr.src
    simp only at c0 c1
    have ISR := Lib.hid (IS.out.below hr.low)
    clear hj hr ST
    by_cases hlt : j < n
    · have hlt' : (j : Int) < n := by omega
      obtain ⟨eb, off, e, rfl, hV, hrg⟩ := ISR.out.rowE.ent hlt
      obtain ⟨ge, hge⟩ : ∃ ge, wr.heap.size = ge := ⟨_, rfl⟩
      have hsz : (aggV (e.sets id t).row).size = 8 := rfl
      have HV := Lib.hid hV
      have RG := Lib.hid hrg
      have hgg : g + 4 ≤ ge := by have := heap_lt HR.out.out; omega
      have LT : Hid (((S.E.take j).map (fun e => e.sets id t)).length + 1 ≤ 1048576) := Lib.hid (by rw [List.length_map, List.length_take]; have := LE.out; omega)
      clear hV hrg
      by_cases hc : e.id = id
      · have hdc : (e.id == id) = true := by simp [hc]
        have hrow : putV (e.row.set 4 (.bool true)) 5 (v3 t) = (e.sets id t).row := by
          rw [CE.sets, if_pos hc]; rfl
        have HRW := Lib.hid hrow
        clear hc hrow
        go_wp2_with (first
          | (refine wpList_load_mid rfl 41 _ rfl eb (off + j * 8) rfl e.row _ RG.out HUE.out rfl (sizeE e) ?_)
          | (refine wpList_alloc_agg rfl 41 rfl ge hge CE.none_.row (allocE _) ?_; intro w1 h1 l1 t1)
          | (refine wpList_store_agg rfl 41 _ _ rfl ge CE.none_.row e.row rfl rfl ?hz rfl (sizeE _) (CE.row_ones _) ?_; (case hz => exact h1); intro w2 h2 f2 t2;
             have p3 : w2.cell? ⟨ge, 3, none⟩ = some (.int .i64 e.id) := vobj_cell h2 rfl)
          | (refine wpList_store_one rfl 4 _ _ rfl ge 4 41 e.row (.bool true) rfl rfl ?hz (show 4 < 8 by omega) size_bool rfl rfl ?_; (case hz => exact h2); intro w3 h3 f3 t3;
             have k3 : Below wr.heap.size wr w3 := (by
               have b1 : Below wr.heap.size wr w1 := (by rw [hge]; exact l1)
               have b2 := b1.trans (f2.below b1.size (fun i hi e' => by have : i = ge := e'; omega))
               exact b2.trans (f3.below b2.size (fun i hi e' => by have : i = ge := e'; omega)));
             have TL3 := Lib.hid (kb_below HR.out.tol k3); have K3 := Lib.hid k3; clear k3)
          | (refine wpList_load_agg rfl 35 _ rfl (g + 1) rfl (v3 t) ?hy _ HUT.out rfl (sizeRT _) ?_; (case hy => exact TL3.out))
          | (refine wpList_store_part rfl 35 _ _ rfl ge 5 41 (e.row.set 4 (.bool true)) (v3 t) rfl rfl ?hz (show 5 + 3 ≤ 8 by omega) (sizeRT _) (v3_ones _) ?_; (case hz => exact h3); intro w4 h4 f4 t4;
             rw [HRW.out] at h4;
             have K4 : Hid (Below wr.heap.size wr w4) := Lib.hid (K3.out.trans (f4.below K3.out.size (fun i hi e' => by have : i = ge := e'; omega)));
             obtain ⟨o0, _⟩ := RC.cells_vals (kb_below HR.out.out K4.out);
             have H4 := Lib.hid h4; clear h4 f4 t4)
          | (refine wpList_load_agg rfl 41 _ rfl ge rfl (e.sets id t).row ?hy _ HUE.out rfl (sizeE _) ?_; (case hy => exact H4.out))
          | (refine wpList_slice1 rfl 26 _ rfl (.agg (aggV (e.sets id t).row)) _ _ rfl (sliceE w4 (e.sets id t)) ?_)
          | (at_builtin;
             refine wpList_appE (base := w.heap.size) rfl (.tmp 34) (.tmp 36) rfl rfl rfl ((HR.out.own.below K4.out).alloc _) (RowR.one (R := erec) w4 (e.sets id t) 41 (cs := aggV (e.sets id t).row) rfl) LT.out (by have := HR.out.low.size; have := K4.out.size; simp; omega) ?_;
             intro v6 w6 own6 gr6 _;
             obtain ⟨A6, n6, c6, hv6, _, _, _, _⟩ := own6.row';
             subst hv6;
             have st := HR.out.step HG.out HV.out (K4.out.alloc K4.out.size _) ((HR.out.own.below K4.out).alloc _) own6 gr6;
             have p6 : w6.cell? ⟨g + 3, 0, none⟩ = some (.slice A' n' c') := (by rw [cell_of st.1]; rfl);
             have fz6 := frozen_of st.1 0;
             have ST6 := Lib.hid st.2;
             clear own6 gr6 st))
        go_roundg (n - (j + 1))
        case measure => have := HJ.out; omega
        case rel => exact ⟨j + 1, A6, n6, c6, by omega, by simp, ST6.out⟩
      · have hdc : (e.id == id) = false := by simp [hc]
        have hrow : e.sets id t = e := by rw [CE.sets, if_neg hc]
        rw [hrow] at hsz
        have HRW := Lib.hid hrow
        clear hc hrow
        go_wp2_with (first
          | (refine wpList_load_mid rfl 41 _ rfl eb (off + j * 8) rfl e.row _ RG.out HUE.out rfl (sizeE e) ?_)
          | (refine wpList_alloc_agg rfl 41 rfl ge hge CE.none_.row (allocE _) ?_; intro w1 h1 l1 t1)
          | (refine wpList_store_agg rfl 41 _ _ rfl ge CE.none_.row e.row rfl rfl ?hz rfl (sizeE _) (CE.row_ones _) ?_; (case hz => exact h1); intro w2 h2 f2 t2;
             have p3 : w2.cell? ⟨ge, 3, none⟩ = some (.int .i64 e.id) := vobj_cell h2 rfl;
             have k2 : Below wr.heap.size wr w2 := (by
               have b1 : Below wr.heap.size wr w1 := (by rw [hge]; exact l1)
               exact b1.trans (f2.below b1.size (fun i hi e' => by have : i = ge := e'; omega)));
             obtain ⟨o0, _⟩ := RC.cells_vals (kb_below HR.out.out k2);
             have K2 := Lib.hid k2; have H2 := Lib.hid h2; clear k2 h2 f2 t2)
          | (refine wpList_load_agg rfl 41 _ rfl ge rfl e.row ?hy _ HUE.out rfl (sizeE _) ?_; (case hy => exact H2.out))
          | (refine wpList_slice1 rfl 26 _ rfl (.agg (aggV e.row)) _ _ rfl (sliceE w2 e) ?_)
          | (at_builtin;
             refine wpList_appE (base := w.heap.size) rfl (.tmp 34) (.tmp 36) rfl rfl rfl ((HR.out.own.below K2.out).alloc _) (RowR.one (R := erec) w2 e 41 (cs := aggV e.row) rfl) LT.out (by have := HR.out.low.size; have := K2.out.size; simp; omega) ?_;
             intro v6 w6 own6 gr6 _;
             obtain ⟨A6, n6, c6, hv6, _, _, _, _⟩ := own6.row';
             subst hv6;
             have own6' : EntR w6 w.heap.size (.slice A6 n6 c6) ((S.E.take j).map (fun e => e.sets id t) ++ [e.sets id t]) := (by rw [HRW.out]; exact own6);
             have st := HR.out.step HG.out HV.out (K2.out.alloc K2.out.size _) ((HR.out.own.below K2.out).alloc _) own6' gr6;
             have p6 : w6.cell? ⟨g + 3, 0, none⟩ = some (.slice A' n' c') := (by rw [cell_of st.1]; rfl);
             have fz6 := frozen_of st.1 0;
             have ST6 := Lib.hid st.2;
             clear own6 own6' gr6 st))
        go_roundg (n - (j + 1))
        case measure => have := HJ.out; omega
        case rel => exact ⟨j + 1, A6, n6, c6, by omega, by simp, ST6.out⟩
    · have hlt' : ¬ (j : Int) < n := by omega
      have hall : S.E.take j = S.E := List.take_of_length_le (by rw [LE.out]; omega)
      have S2 : Hid (RSj w wr g S id t A n c B m d 0 A' n' c' none 0 0 (.slice none 0 0)) := Lib.hid (by
        have hown := HR.out.own
        rw [hall] at hown
        exact ⟨hown, OwnR.nil _ _ _, Ints.nil _ _, HR.out.out, HR.out.src, HR.out.res, HR.out.low⟩)
      clear hall HR ISR
      go_wp2
      clear c0 c1
      go_loopg [11, 12] m (fun q v11 v12 wr => ∃ (j : Nat) (B' : Option Addr) (m' d' : Nat), j + q = m ∧ v12 = .int .i64 j ∧ RSj w wr g S id t A n c B m d j A' n' c' B' m' d' v11)
      case atStart => exact ⟨0, none, 0, 0, by omega, rfl, S2.out⟩
      case round =>
        obtain ⟨j, B', m', d', hj, rfl, hr⟩ := hrel
        have HJ2 := Lib.hid hj
        have HR := Lib.hid hr
        obtain ⟨c0, c1⟩ := RC.cells_vals hr.src
        obtain ⟨o0, o1⟩ := RC.cells_vals hr.out
        simp only at c0 c1 o0 o1
        have ISR := Lib.hid (IS.out.below hr.low)
        clear hj hr S2
        by_cases hlt2 : j < m
        · have hlt2' : (j : Int) < m := by omega
          obtain ⟨pb, off, x, y, rfl, hV, q0, q1⟩ := ISR.out.rowJ.pr hlt2
          have HV := Lib.hid hV
          have hfit := OK.out.fitJ (x, y) (List.mem_of_getElem? hV)
          have HWY : Hid (wf64 y) := Lib.hid hfit.2
          clear hV hfit
          by_cases hc : x = id
          · have hdc : (x == id) = true := by simp [hc]
            have HV' : Hid (S.J[j]? = some (id, y)) := Lib.hid (by rw [← hc]; exact HV.out)
            have LT : Hid ((theirs id (S.J.take j)).length + 1 ≤ 1048576) := Lib.hid (by have := theirs_len id S.J j; have := LJ.out; omega)
            clear hc
            go_wp2_with (first
              | (at_builtin
                 refine wpList_app (base := w.heap.size) rfl (.tmp 54) (.tmp 61) rfl rfl rfl (HR.out.ownl.alloc _) (row_one _ y HWY.out) rfl LT.out (by have := HR.out.low.size; simp; omega) ?_
                 intro v6 w6 own6 gr6 _
                 have ST6 := Lib.hid (HR.out.yes HV'.out (below_alloc _ _) (HR.out.ownl.alloc _) own6 gr6)
                 clear own6 gr6))
            go_roundg (m - (j + 1))
            case measure => have := HJ2.out; omega
            case rel => exact ⟨j + 1, B', m', d', by omega, by simp, ST6.out⟩
          · have hdc : (x == id) = false := by simp [hc]
            have HC := Lib.hid hc
            have o1' : (wr.alloc (.cells #[.int .i64 x, .int .i64 y] 72)).cell? ⟨g + 3, 1, none⟩ = some (.slice B' m' d') := cell_alloc o1 _
            have OWN : Hid (PrR (wr.alloc (.cells #[.int .i64 x, .int .i64 y] 72)).drew w.heap.size (.slice B' m' d') (others id (S.J.take j))) := Lib.hid ((HR.out.ownj.alloc _).ali (drew_ali _))
            have SRC : Hid (RowR prec (wr.alloc (.cells #[.int .i64 x, .int .i64 y] 72)).drew (some ⟨wr.heap.size, 0, none⟩) 1 [(x, y)]) := Lib.hid ((RowR.one (R := prec) wr (x, y) 72 rfl).ali (drew_ali _))
            have BW : Hid (Below wr.heap.size wr (wr.alloc (.cells #[.int .i64 x, .int .i64 y] 72)).drew) := Lib.hid (below_ali (below_alloc _ _) (drew_ali _))
            have HS1 : Hid (w.heap.size ≤ (wr.alloc (.cells #[.int .i64 x, .int .i64 y] 72)).drew.heap.size) := Lib.hid (Nat.le_trans HR.out.low.size BW.out.size)
            have LT : Hid ((others id (S.J.take j)).length + 1 ≤ 1048576) := Lib.hid (by have := others_len id S.J j; have := LJ.out; omega)
            obtain ⟨i0, hi0, hz0, hz1, hz2⟩ := info_parts pr_info
            clear hc
            go_wp2
            go_region_law (first
              | (refine appR_step (P := Try.prog) (R := prec) rfl (.tmp 64) (.tmp 70) rfl pr_slice hi0 hz0 hz1 hz2 rfl (by decide) (base := w.heap.size) rfl rfl OWN.out SRC.out LT.out HS1.out ?_
                 intro v6 w6 own6 gr6 ob6
                 obtain ⟨A6, n6, c6, hv6, _, _, _, _⟩ := own6.row'
                 subst hv6
                 have st := HR.out.no HG.out HV.out HC.out BW.out OWN.out own6 gr6
                 have p6 : w6.cell? ⟨g + 3, 1, none⟩ = some (.slice B' m' d') := (by rw [cell_of st.1]; rfl)
                 have fz6 := frozen_of st.1 1
                 have ST6 := Lib.hid st.2
                 clear own6 gr6 ob6 st))
            all_goals go_wp2
            all_goals go_roundg (m - (j + 1))
            all_goals first
              | (have := HJ2.out; omega)
              | exact ⟨j + 1, A6, n6, c6, by omega, by simp, ST6.out⟩
        · have hlt2' : ¬ (j : Int) < m := by omega
          have hall : S.J.take j = S.J := List.take_of_length_le (by rw [LJ.out]; omega)
          have hj1 := HR.out.ownj
          have hj2 := HR.out.ownl
          rw [hall] at hj1 hj2
          have HJ1 := Lib.hid hj1
          have HJ3 := Lib.hid hj2
          clear hall hj1 hj2 o0 o1
          go_wp2_with (first
            | (refine wpList_load_agg rfl 29 _ rfl (g + 3) rfl (RC.mk A' n' c' B' m' d').vals ?hy _ HU.out rfl (sizeX _) ?_; (case hy => exact HR.out.out))
            | (refine wpList_store_agg rfl 29 _ _ rfl (g + 2) RC.zero.vals (RC.mk A' n' c' B' m' d').vals rfl rfl ?hz rfl (sizeX _) (RC.ones_vals _) ?_; (case hz => exact HR.out.res); intro w8 h8 f8 t8))
          refine bodyPost_ret (v := .tuple #[.agg (aggV (RC.mk A' n' c' B' m' d').vals), _]) (results_agg1 Try.results21 rfl (loadX h8) rfl) rfl ⟨RC.mk A' n' c' B' m' d', _, rfl, ?_, ?_, ?_⟩
          · exact RC.Is.beside (x := RC.mk A' n' c' B' m' d') (w := wr) ⟨HR.out.own.mono HB.out, HJ1.out.mono HB.out⟩ HR.out.res (by decide) f8
          · have h9 := HJ3.out.frm f8 (one_typ HR.out.res (by decide))
            first | exact h9 | (rw [hg] at h9; exact h9)
          · have h9 := HR.out.low.trans (f8.below HR.out.low.size (fun i hi e' => by have : i = g + 2 := e'; omega))
            first | exact h9 | (rw [hg] at h9; exact h9)
end Go.Proofs.Ytlphahkmibhidaa
