/- Contracts of package cache: Ask. -/
import Derived.Test.YtlphahkmibhidaaCacSet
namespace Go.Proofs.Ytlphahkmibhidaa
set_option linter.unusedVariables false
open Go.ChangeShapes Go.WideShapes Go.ChangeAt Go.RowKit

/-- Results: a number in a slot, a value in a cell. -/
theorem results_num {P : Program} {w : World} {fn : Func} {tmps : Array Value} {t : TypeId} {c d : Tmp} {p : Addr} {v x : Value} (hr : fn.results = #[.tmp d, .cell c t]) (ha : tmps.getD c undef = .pointer (some p)) (hl : (loadVar t p).run P w = .ok v w) (hx : tmps.getD d undef = x) :
    (results fn tmps).run P w = .ok (.tuple #[x, v]) w := by
  unfold results
  rw [hr]
  rw [Array.getD_eq_getD_getElem?] at ha hx
  simp [asAddr, ha, hl, hx]
set_option maxRecDepth 100000 in
set_option maxHeartbeats 1000000 in
theorem ask_nil (k : K3) (id : Int) (w : World) : Calls Try.prog 15 #[.pointer none, .agg (aggV (v3 k)), .int .i64 id] w fun r w' => r = .returned (.tuple #[.int .i64 1, .agg (aggV (v3 zero3))]) ∧ Below w.heap.size w w' := by
  obtain ⟨g, hg⟩ : ∃ g, w.heap.size = g := ⟨_, rfl⟩
  go_enter Try.func15, Try.ntmps15
  go_wp2_with (first
    | (refine wpList_box_agg rfl 47 _ rfl g hg (v3 k) rfl ?_; intro w1 h1 l1 t1)
    | (refine wpList_alloc_agg rfl 44 rfl (g + 1) t1 (v3 zero3) (allocT _) ?_; intro w2 h2 l2 t2)
    | (refine wpList_build_agg rfl 44 #[] rfl (v3 zero3) (buildT _) ?_)
    | (refine wpList_store_agg rfl 44 _ _ rfl (g + 1) (v3 zero3) (v3 zero3) rfl rfl ?hz rfl (sizeT _) (v3_ones _) ?_; (case hz => exact h2); intro w3 h3 f3 t3))
  refine bodyPost_ret (v := .tuple #[.int .i64 1, .agg (aggV (v3 zero3))]) (results_num Try.results15 rfl (loadT h3) rfl) rfl ⟨rfl, ?_⟩
  subst hg
  exact (l1.trans (l2.mono (by omega))).trans (f3.below (by omega) (fun j hj e => by have e' : j = w.heap.size + 1 := e; omega))
set_option maxRecDepth 100000 in
set_option maxHeartbeats 1000000 in
theorem ask_zero (b : Nat) (k : K3) (id : Int) (w : World) (h0 : k.a = 0) : Calls Try.prog 15 #[.pointer (some ⟨b, 0, none⟩), .agg (aggV (v3 k)), .int .i64 id] w fun r w' => r = .returned (.tuple #[.int .i64 1, .agg (aggV (v3 zero3))]) ∧ Below w.heap.size w w' := by
  obtain ⟨g, hg⟩ : ∃ g, w.heap.size = g := ⟨_, rfl⟩
  have hb0 : (k.a == 0) = true := by simp [h0]
  clear h0
  go_enter Try.func15, Try.ntmps15
  go_wp2_with (first
    | (refine wpList_box_agg rfl 47 _ rfl g hg (v3 k) rfl ?_; intro w1 h1 l1 t1)
    | (refine wpList_alloc_agg rfl 44 rfl (g + 1) t1 (v3 zero3) (allocT _) ?_; intro w2 h2 l2 t2; obtain ⟨d0, _, _⟩ := cells3 ((l2.block g (by omega)).trans h1))
    | (refine wpList_build_agg rfl 44 #[] rfl (v3 zero3) (buildT _) ?_)
    | (refine wpList_store_agg rfl 44 _ _ rfl (g + 1) (v3 zero3) (v3 zero3) rfl rfl ?hz rfl (sizeT _) (v3_ones _) ?_; (case hz => exact h2); intro w3 h3 f3 t3))
  refine bodyPost_ret (v := .tuple #[.int .i64 1, .agg (aggV (v3 zero3))]) (results_num Try.results15 rfl (loadT h3) rfl) rfl ⟨rfl, ?_⟩
  subst hg
  exact (l1.trans (l2.mono (by omega))).trans (f3.below (by omega) (fun j hj e => by have e' : j = w.heap.size + 1 := e; omega))

theorem ptrs_at {w : World} {F : Nat → Prop} {b km jm n : Nat} {L : List (CE × Nat)} {jf : Int → Option Value} {S : CA} (h : CX w F b km jm L n jf S) (k : K3) : (S.at_ k = none → ptrs L k = none) ∧ ∀ e, S.at_ k = some e → ∃ p ∈ L, p.1 = e ∧ ptrs L k = some (.pointer (some ⟨p.2, 0, none⟩)) := by
  have e : S.at_ k = (L.find? (fun p => decide (p.1.k = k))).map (·.1) := by
    unfold CA.at_
    rw [← h.view, List.find?_map]
    rfl
  rw [e]
  unfold ptrs
  cases hf : L.find? (fun p => decide (p.1.k = k)) with
  | none => simp
  | some p =>
    refine ⟨by simp, fun e he => ⟨p, List.mem_of_find?_eq_some hf, by simpa using he, rfl⟩⟩
set_option maxRecDepth 100000 in
set_option maxHeartbeats 1000000 in
theorem ask_know (F : Nat → Prop) (b : Nat) (S : CA) (k : K3) (id : Int) (w : World) (h : Cch w F b S) (hk : wf3 k) (h0 : k.a ≠ 0) (e : CE) (he : S.at_ k = some e) (hd : e.done = true) :
    Calls Try.prog 15 #[.pointer (some ⟨b, 0, none⟩), .agg (aggV (v3 k)), .int .i64 id] w fun r w' => r = .returned (.tuple #[.int .i64 3, .agg (aggV (v3 e.t))]) ∧ Below w.heap.size w w' := by
  obtain ⟨g, hg⟩ : ∃ g, w.heap.size = g := ⟨_, rfl⟩
  obtain ⟨km, jm, L, n, jf, h⟩ := h
  obtain ⟨p, hp, hpe, hpt⟩ := (ptrs_at h k).2 e he
  have hb0 : (k.a == 0) = false := by simp [h0]
  have HX := Lib.hid h
  have HP := Lib.hid hp
  have HPE := Lib.hid hpe
  have HPT := Lib.hid hpt
  have HK := Lib.hid hk
  have HD := Lib.hid hd
  clear h0 h hp hpe hpt hk hd he
  go_enter Try.func15, Try.ntmps15
  go_wp2_with (first
    | (refine wpList_box_agg rfl 47 _ rfl g hg (v3 k) rfl ?_; intro w1 h1 l1 t1)
    | (refine wpList_alloc_agg rfl 44 rfl (g + 1) t1 (v3 zero3) (allocT _) ?_; intro w2 h2 l2 t2;
       have B2 : Hid (Below w.heap.size w w2) := Lib.hid (by rw [hg]; exact l1.trans (l2.mono (by omega)));
       have H2 := Lib.hid h2; have T2 := Lib.hid t2;
       have hx2 := HX.out.keep (fun j o ho _ _ => kb_below ho B2.out);
       obtain ⟨d0, d1, d2⟩ := cells3 ((l2.block g (by omega)).trans h1);
       obtain ⟨c0, c1⟩ := hx2.cells;
       have hlk : ∀ n, (Instr.lookup 58 (.map (some km)) (.agg #[.int .i64 k.a, .int .i64 k.b, .int .i64 k.c]) false).run Try.prog (w2.drewN n) = .ok (.pointer (some ⟨p.2, 0, none⟩)) (w2.drewN n) := (fun n => by
         have := hx2.keys.look (w' := w2.drewN n) (x := k) HK.out key_map ent_zero rfl
         rw [HPT.out] at this
         exact this);
       clear h1 h2 l1 l2 t1 t2 hx2))
  go_quiet (fail)
  rename_i nq
  generalize hwq : w2.drewN nq = wq
  have ha : Ali w2 wq := by rw [← hwq]; exact drewN_ali _ _
  have BQ := Lib.hid (below_ali B2.out ha)
  have HQ := Lib.hid (kb_below H2.out (ali_below ha))
  have heq := kb_below (HX.out.ents p HP.out) BQ.out
  rw [HPE.out] at heq
  obtain ⟨e0, e1, e2, e3, e4⟩ := cellsE heq
  rw [HD.out] at e1
  obtain ⟨q0, q1, q2⟩ := cells3 HQ.out
  have f0 := vobj_frozen HQ.out 0
  have f1 := vobj_frozen HQ.out 1
  have f2 := vobj_frozen HQ.out 2
  clear c0 c1 d0 d1 d2 hlk hwq ha heq
  go_wp2
  go_region
  all_goals go_wp2
  all_goals (
    have h3 : (((wq.drew.setCell ⟨g + 1, 0, none⟩ (.int .i64 e.t.a)).setCell ⟨g + 1, 1, none⟩ (.int .i64 e.t.b)).setCell ⟨g + 1, 2, none⟩ (.int .i64 e.t.c)).heap[g + 1]? = some (vobj 44 (v3 e.t)) := by
      rw [vobj_set (vobj_set (vobj_set (w := wq.drew) HQ.out 0 _) 1 _) 2 _]
      rfl
    refine bodyPost_ret (v := .tuple #[.int .i64 3, .agg (aggV (v3 e.t))]) (results_num Try.results15 rfl (loadT h3) rfl) rfl ⟨rfl, ?_⟩
    have f3 : Frm (· = g + 1) wq (((wq.drew.setCell ⟨g + 1, 0, none⟩ (.int .i64 e.t.a)).setCell ⟨g + 1, 1, none⟩ (.int .i64 e.t.b)).setCell ⟨g + 1, 2, none⟩ (.int .i64 e.t.c)) :=
      ((((Frm.refl (· = g + 1) wq).ali (drew_ali wq)).set (p := ⟨g + 1, 0, none⟩) rfl _).set (p := ⟨g + 1, 1, none⟩) rfl _).set (p := ⟨g + 1, 2, none⟩) rfl _
    have bq : Below w.heap.size w wq := BQ.out
    first | exact bq.trans (f3.below bq.size (fun j hj e => by have e' : j = g + 1 := e; omega)) | (rw [← hg] at *; exact bq.trans (f3.below bq.size (fun j hj e => by have e' : j = w.heap.size + 1 := e; omega))))
end Go.Proofs.Ytlphahkmibhidaa
