/- Contracts of porpoiseref12: Ask. -/
import Derived.Test.YtlphahkmibhidaaRef12
namespace Go.Proofs.Ytlphahkmibhidaa
set_option linter.unusedVariables false
open Go.ChangeShapes Go.WideShapes Go.ChangeAt Go.RowKit

theorem at_found {S : CA} {k : K3} {j : Nat} {e : CE} (hno : ∀ x ∈ S.E.take j, x.k ≠ k) (he : S.E[j]? = some e) (hk : e.k = k) : S.at_ k = some e := by
  unfold CA.at_
  obtain ⟨hj, hej⟩ := List.getElem?_eq_some_iff.1 he
  rw [List.find?_eq_some_iff_getElem]
  refine ⟨by simp [hk], j, hj, hej, fun i hi => ?_⟩
  have := hno (S.E[i]'(by omega)) (by rw [List.mem_take_iff_getElem]; exact ⟨i, by omega, rfl⟩)
  simpa using this
theorem at_nowhere {S : CA} {k : K3} {j : Nat} (hno : ∀ x ∈ S.E.take j, x.k ≠ k) (hj : S.E.length ≤ j) : S.at_ k = none := by
  rw [List.take_of_length_le hj] at hno
  unfold CA.at_
  rw [List.find?_eq_none]
  intro x hx
  simpa using hno x hx
/-- Both results, stored cell by cell. -/
theorem two_stores {w : World} {g h : Nat} {X : RC} {t : K3} (hx : w.heap[g]? = some (vobj 29 X.vals)) (ht : w.heap[h]? = some (vobj 35 (v3 t))) (hne : g ≠ h) (Y : RC) (u : K3) :
    (((((w.setCell ⟨g, 0, none⟩ (.slice Y.A Y.n Y.c)).setCell ⟨g, 1, none⟩ (.slice Y.B Y.m Y.d)).setCell ⟨h, 0, none⟩ (.int .i64 u.a)).setCell ⟨h, 1, none⟩ (.int .i64 u.b)).setCell ⟨h, 2, none⟩ (.int .i64 u.c)).heap[g]? = some (vobj 29 Y.vals) ∧
    (((((w.setCell ⟨g, 0, none⟩ (.slice Y.A Y.n Y.c)).setCell ⟨g, 1, none⟩ (.slice Y.B Y.m Y.d)).setCell ⟨h, 0, none⟩ (.int .i64 u.a)).setCell ⟨h, 1, none⟩ (.int .i64 u.b)).setCell ⟨h, 2, none⟩ (.int .i64 u.c)).heap[h]? = some (vobj 35 (v3 u)) ∧
    Frm (fun j => j = g ∨ j = h) w (((((w.setCell ⟨g, 0, none⟩ (.slice Y.A Y.n Y.c)).setCell ⟨g, 1, none⟩ (.slice Y.B Y.m Y.d)).setCell ⟨h, 0, none⟩ (.int .i64 u.a)).setCell ⟨h, 1, none⟩ (.int .i64 u.b)).setCell ⟨h, 2, none⟩ (.int .i64 u.c)) := by
  have h1 : ((w.setCell ⟨g, 0, none⟩ (.slice Y.A Y.n Y.c)).setCell ⟨g, 1, none⟩ (.slice Y.B Y.m Y.d)).heap[g]? = some (vobj 29 Y.vals) := by
    rw [vobj_set (vobj_set hx 0 _) 1 _]; rfl
  have h2 : ((w.setCell ⟨g, 0, none⟩ (.slice Y.A Y.n Y.c)).setCell ⟨g, 1, none⟩ (.slice Y.B Y.m Y.d)).heap[h]? = some (vobj 35 (v3 t)) := by
    rw [heap_set_other (Ne.symm hne), heap_set_other (Ne.symm hne)]; exact ht
  refine ⟨?_, ?_, ?_⟩
  · rw [heap_set_other hne, heap_set_other hne, heap_set_other hne]; exact h1
  · rw [vobj_set (vobj_set (vobj_set h2 0 _) 1 _) 2 _]; rfl
  · exact (((((Frm.refl (fun j => j = g ∨ j = h) w).set (p := ⟨g, 0, none⟩) (.inl rfl) _).set (p := ⟨g, 1, none⟩) (.inl rfl) _).set (p := ⟨h, 0, none⟩) (.inr rfl) _).set (p := ⟨h, 1, none⟩) (.inr rfl) _).set (p := ⟨h, 2, none⟩) (.inr rfl) _
theorem RC.Is.aside {x : RC} {w w' : World} {base g h : Nat} {S : CA} {cs cs' : Array Value} {t t' : TypeId} {z z' : Nat × Nat} (i : x.Is w base S) (hg : w.heap[g]? = some (.cells cs t z)) (hh : w.heap[h]? = some (.cells cs' t' z')) (ht : t ≠ 41 ∧ t ≠ 72) (ht' : t' ≠ 41 ∧ t' ≠ 72) (hf : Frm (fun j => j = g ∨ j = h) w w') : x.Is w' base S :=
  i.frm hf (fun j hj cs'' => by
    rcases hj with e | e
    · subst e
      rw [hg]
      constructor
      · intro e; injection e with e; injection e with _ e; exact ht.1 e
      · intro e; injection e with e; injection e with _ e; exact ht.2 e
    · subst e
      rw [hh]
      constructor
      · intro e; injection e with e; injection e with _ e; exact ht'.1 e
      · intro e; injection e with e; injection e with _ e; exact ht'.2 e)
set_option maxRecDepth 100000 in
set_option maxHeartbeats 4000000 in
theorem rask_some (X : RC) (base : Nat) (S : CA) (k : K3) (id : Int) (w : World) (h : X.Is w base S) (hb : base ≤ w.heap.size) (ok : S.Ok) (hk : wf3 k) (hid : wf64 id) (hs : S.size ≤ 1000) (h0 : k.a ≠ 0) :
    Calls Try.prog 20 #[.agg (aggV X.vals), .agg (aggV (v3 k)), .int .i64 id] w fun r w' => ∃ Y : RC, r = .returned (.tuple #[.agg (aggV Y.vals), .int .i64 (S.asks k), .agg (aggV (v3 (S.tell k)))]) ∧ Y.Is w' base (S.ask k id) ∧ Below w.heap.size w w' := by
  obtain ⟨g, hg⟩ : ∃ g, w.heap.size = g := ⟨_, rfl⟩
  obtain ⟨A, n, c, B, m, d⟩ := X
  obtain ⟨fs, hu⟩ := undX
  have HU := Lib.hid hu
  obtain ⟨fsk, huk⟩ := undRK
  have HUK := Lib.hid huk
  have hnl : n ≤ 1000 := by have := h.rowE.1; simp only at this; unfold CA.size at hs; omega
  have hml : m ≤ 1000 := by have := h.rowJ.1; simp only at this; have := ok.le; unfold CA.size at hs; omega
  have hlE : S.E.length = n := h.rowE.1
  have hlJ : S.J.length = m := h.rowJ.1
  have hb0 : (k.a == 0) = false := by simp [h0]
  have H0 := Lib.hid h0
  have IS := Lib.hid h
  have OK := Lib.hid ok
  have HK := Lib.hid hk
  have HI := Lib.hid hid
  have HB := Lib.hid hb
  have LE := Lib.hid hlE
  have LJ := Lib.hid hlJ
  clear h0 hu h ok hk hid hb hs hlE hlJ huk
  go_enter Try.func20, Try.ntmps20
  go_wp2_with (first
    | (refine wpList_box_agg rfl 29 _ rfl g hg (RC.mk A n c B m d).vals rfl ?_; intro w1 h1 l1 t1)
    | (refine wpList_box_agg rfl 33 _ rfl (g + 1) t1 (v3 k) rfl ?_; intro w2 h2 l2 t2)
    | (refine wpList_alloc_agg rfl 29 rfl (g + 2) t2 RC.zero.vals (allocX _) ?_; intro w3 h3 l3 t3)
    | (refine wpList_alloc_agg rfl 35 rfl (g + 3) t3 (v3 zero3) (allocRT _) ?_; intro w4 h4 l4 t4;
       have k4 : w4.heap[g + 1]? = some (vobj 33 (v3 k)) := ((l4.block _ (by omega)).trans (l3.block _ (by omega))).trans h2;
       have x4 : w4.heap[g]? = some (vobj 29 (RC.mk A n c B m d).vals) := (((l4.block _ (by omega)).trans (l3.block _ (by omega))).trans (l2.block _ (by omega))).trans h1;
       have r4 : w4.heap[g + 2]? = some (vobj 29 RC.zero.vals) := (l4.block _ (by omega)).trans h3;
       have B4 : Hid (Below w.heap.size w w4) := Lib.hid (by rw [hg]; exact ((l1.trans (l2.mono (by omega))).trans (l3.mono (by omega))).trans (l4.mono (by omega)));
       obtain ⟨d0, _, _⟩ := cells3 k4; have X4 := Lib.hid x4; have R4 := Lib.hid r4; have H4 := Lib.hid h4; have K4 := Lib.hid k4; have T4 := Lib.hid t4; clear h1 h2 h3 h4 l1 l2 l3 l4 t1 t2 t3 t4 k4 x4 r4))
  clear d0
  go_loopg [9] n (fun q v9 wr => ∃ j : Nat, j + q = n ∧ v9 = .int .i64 j ∧ (∀ x ∈ S.E.take j, x.k ≠ k) ∧ Ali w4 wr)
  case atStart => exact ⟨0, by omega, rfl, by simp, Ali.refl _⟩
  case round =>
    obtain ⟨j, hj, rfl, hno, ha⟩ := hrel
    have HJ := Lib.hid hj
    have NO := Lib.hid hno
    have HA := Lib.hid ha
    have BR : Hid (Below w.heap.size w wr) := Lib.hid (below_ali B4.out ha)
    have ISR := Lib.hid (IS.out.below BR.out)
    have X5 := Lib.hid (kb_below X4.out (ali_below ha))
    have K5 := Lib.hid (kb_below K4.out (ali_below ha))
    have R5 := Lib.hid (kb_below R4.out (ali_below ha))
    have H5 := Lib.hid (kb_below H4.out (ali_below ha))
    have T5 : Hid (wr.heap.size = g + 4) := Lib.hid (by rw [ha.heap]; exact T4.out)
    obtain ⟨c0, c1⟩ := RC.cells_vals X5.out
    obtain ⟨d0, d1, d2⟩ := cells3 K5.out
    clear hj hno ha
    by_cases hlt : j < n
    · have hlt' : (j : Int) < n := by omega
      obtain ⟨eb, off, e, rfl, hV, hrg⟩ := ISR.out.rowE.ent hlt
      simp only at c0 c1
      obtain ⟨q0, q1, q2, q3, q4, q5, q6, q7⟩ := row_cells hrg
      have heq : ∀ w, (Op.equalIn 10000 33 (.agg #[.int .i64 e.k.a, .int .i64 e.k.b, .int .i64 e.k.c]) (.agg #[.int .i64 k.a, .int .i64 k.b, .int .i64 k.c])).run Try.prog w = .ok (decide (e.k = k)) w := sameRK e.k k (OK.out.fitE e (List.mem_of_getElem? hV)).1 HK.out
      have HV := Lib.hid hV
      have HRG := Lib.hid hrg
      clear hV hrg
      by_cases hc : e.k = k
      · have hdc : decide (e.k = k) = true := by simp [hc]
        rw [hdc] at heq
        have hat := at_found NO.out HV.out hc
        have HAT := Lib.hid hat
        clear hc hdc hat
        cases hd : e.done
        · rw [hd] at q4
          have hh : S.asks k = 2 ∧ S.tell k = zero3 ∧ S.ask k id = ⟨S.E, S.J ++ [(e.id, id)], S.q + 1⟩ := by
            have h0 := H0.out
            have hat := HAT.out
            refine ⟨by simp [CA.asks, h0, hat, hd], by simp [CA.tell, h0, hat, hd], by simp [CA.ask, h0, hat, hd]⟩
          have HH := Lib.hid hh
          have HD := Lib.hid hd
          clear hh hd
          go_wp2
          go_quiet (fail)
          rename_i nq
          generalize hwq : wr.drewN nq = wq
          have haq : Ali wr wq := by rw [← hwq]; exact drewN_ali _ _
          have BQ : Hid (Below w.heap.size w wq) := Lib.hid (below_ali BR.out haq)
          have XQ := Lib.hid (kb_below X5.out (ali_below haq))
          have RQ := Lib.hid (kb_below R5.out (ali_below haq))
          have HQ := Lib.hid (kb_below H5.out (ali_below haq))
          have ISQ := Lib.hid (ISR.out.ali haq)
          have TQ : Hid (wq.heap.size = g + 4) := Lib.hid (by rw [haq.heap]; exact T5.out)
          have rgq : wq.rangeAt eb (off + j * 8) e.row := fun i u hu => cell_later (ali_below haq) (HRG.out i u hu)
          clear c0 c1 d0 d1 d2 q0 q1 q2 q3 q4 q5 q6 q7 heq hwq
          obtain ⟨c0, c1⟩ := RC.cells_vals XQ.out
          simp only at c0 c1
          obtain ⟨q0, q1, q2, q3, q4, q5, q6, q7⟩ := row_cells rgq
          rw [HD.out] at q4
          have RGQ := Lib.hid rgq
          have E5 : Hid (PrR (wq.alloc (.cells #[] 72)) wq.heap.size (.slice (some ⟨wq.heap.size, 0, none⟩) 0 0) ([] : List (Int × Int))) := Lib.hid (OwnR.empty wq _ (Nat.le_refl _))
          have RJ5 := Lib.hid (ISQ.out.rowJ.later (below_alloc wq (.cells #[] 72)))
          have c1' : (wq.alloc (.cells #[] 72)).cell? ⟨g, 1, none⟩ = some (.slice B m d) := cell_alloc c1 _
          clear rgq haq q0 q1 q2 q3 q5 q6 q7
          go_wp2_with (first
            | (at_builtin;
               refine wpList_appP (base := wq.heap.size) rfl (.tmp 45) (.tmp 47) rfl rfl rfl E5.out RJ5.out (by simp; omega) (by simp) ?_;
               intro v6 w6 own6 gr6 _;
               have b6 := grown_low gr6 (by simp) E5.out.low;
               have b6' : Below wq.heap.size wq w6 := ((Below.refl _ _).alloc (Nat.le_refl _) _).trans b6;
               have O6 : Hid (PrR w6 wq.heap.size v6 S.J) := Lib.hid own6; have B6 := Lib.hid b6'; have X6 := Lib.hid (kb_below XQ.out b6');
               obtain ⟨p0, _⟩ := RC.cells_vals X6.out;
               have p3 : w6.cell? ⟨eb, off + j * 8 + 3, none⟩ = some (.int .i64 e.id) := cell_later b6' (RGQ.out 3 _ rfl);
               clear own6 gr6 b6 b6' E5 RJ5)
            | (at_builtin;
               refine wpList_appP (base := wq.heap.size) rfl (.tmp 49) (.tmp 58) rfl rfl rfl (O6.out.alloc _) (RowR.one (R := prec) w6 (e.id, id) 72 (cs := #[.int .i64 e.id, .int .i64 id]) rfl) (by have := LJ.out; omega) (by have := B6.out.size; simp; omega) ?_;
               intro v7 w7 own7 gr7 _;
               have b7 := grown_low gr7 (by have := B6.out.size; simp; omega) O6.out.low;
               have b7' : Below wq.heap.size wq w7 := (B6.out.alloc B6.out.size _).trans b7;
               obtain ⟨A7, n7, c7, hv7, _, _, _, _⟩ := own7.row';
               subst hv7;
               have O7 := Lib.hid own7; have B7 := Lib.hid b7'; have X7 := Lib.hid (kb_below XQ.out b7'); have R7 := Lib.hid (kb_below RQ.out b7'); have H7 := Lib.hid (kb_below HQ.out b7');
               obtain ⟨z0, _⟩ := RC.cells_vals X7.out;
               clear own7 gr7 b7 b7')
            | (refine wpList_build_agg rfl 35 #[] rfl (v3 zero3) (buildRT _) ?_)
            | (refine wpList_store_agg rfl 29 _ _ rfl (g + 2) RC.zero.vals (RC.mk (some ⟨eb, off, none⟩) n c A7 n7 c7).vals rfl rfl ?hz rfl (sizeX _) (RC.ones_vals _) ?_; (case hz => exact R7.out); intro w8 h8 f8 t8;
               have H8 : Hid (w8.heap[g + 3]? = some (vobj 35 (v3 zero3))) := Lib.hid ((f8.block _ (heap_lt H7.out) (show ¬ (g + 3 = g + 2) by omega)).trans H7.out))
            | (refine wpList_store_agg rfl 35 _ _ rfl (g + 3) (v3 zero3) (v3 zero3) rfl rfl ?hz rfl (sizeRT _) (v3_ones _) ?_; (case hz => exact H8.out); intro w9 h9 f9 t9))
          have x9 : w9.heap[g + 2]? = some (vobj 29 (RC.mk (some ⟨eb, off, none⟩) n c A7 n7 c7).vals) := (f9.block _ (heap_lt h8) (show ¬ (g + 2 = g + 3) by omega)).trans h8
          have tq := TQ.out
          have i7 : (RC.mk (some ⟨eb, off, none⟩) n c A7 n7 c7).Is w7 base ⟨S.E, S.J ++ [(e.id, id)], S.q + 1⟩ := ⟨ISQ.out.ent.below B7.out, O7.out.mono (Nat.le_trans HB.out BQ.out.size)⟩
          have bw : Below w.heap.size w w7 := BQ.out.trans (B7.out.mono BQ.out.size)
          refine bodyPost_ret (v := .tuple #[.agg (aggV (RC.mk (some ⟨eb, off, none⟩) n c A7 n7 c7).vals), .int .i64 2, .agg (aggV (v3 zero3))]) (results_c3 Try.results20 rfl (loadX x9) rfl rfl (loadRT h9)) rfl ⟨RC.mk (some ⟨eb, off, none⟩) n c A7 n7 c7, by rw [HH.out.1, HH.out.2.1], ?_, ?_⟩
          · rw [HH.out.2.2]
            exact (i7.beside R7.out (by decide) f8).beside H8.out (by decide) f9
          · have f89 : Below w.heap.size w w9 := (bw.trans (f8.below bw.size (fun j hj e => by have e' : j = g + 2 := e; omega))).trans (f9.below (by have := bw.size; omega) (fun j hj e => by have e' : j = g + 3 := e; omega))
            first | exact f89 | (rw [← hg]; exact f89) | (rw [hg] at f89; exact f89)
        · rw [hd] at q4
          have hh : S.asks k = 3 ∧ S.tell k = e.t ∧ S.ask k id = S := by
            have h0 := H0.out
            have hat := HAT.out
            refine ⟨by simp [CA.asks, h0, hat, hd], by simp [CA.tell, h0, hat, hd], by simp [CA.ask, h0, hat, hd]⟩
          have HH := Lib.hid hh
          have HD := Lib.hid hd
          clear hh hd
          go_wp2
          go_quiet (fail)
          rename_i nq
          generalize hwq : wr.drewN nq = wq
          have haq : Ali wr wq := by rw [← hwq]; exact drewN_ali _ _
          have BQ : Hid (Below w.heap.size w wq) := Lib.hid (below_ali BR.out haq)
          have XQ := Lib.hid (kb_below X5.out (ali_below haq))
          have RQ := Lib.hid (kb_below R5.out (ali_below haq))
          have HQ := Lib.hid (kb_below H5.out (ali_below haq))
          have ISQ := Lib.hid (ISR.out.ali haq)
          have rgq : wq.rangeAt eb (off + j * 8) e.row := fun i u hu => cell_later (ali_below haq) (HRG.out i u hu)
          clear c0 c1 d0 d1 d2 q0 q1 q2 q3 q4 q5 q6 q7 heq hwq
          obtain ⟨c0, c1⟩ := RC.cells_vals XQ.out
          simp only at c0 c1
          obtain ⟨q0, q1, q2, q3, q4, q5, q6, q7⟩ := row_cells rgq
          rw [HD.out] at q4
          obtain ⟨r0, r1⟩ := RC.cells_vals RQ.out
          simp only [RC.zero] at r0 r1
          obtain ⟨s0, s1, s2⟩ := cells3 HQ.out
          have fr0 := vobj_frozen RQ.out 0
          have fr1 := vobj_frozen RQ.out 1
          have fs0 := vobj_frozen HQ.out 0
          have fs1 := vobj_frozen HQ.out 1
          have fs2 := vobj_frozen HQ.out 2
          clear rgq haq
          go_wp2
          go_region
          all_goals go_wp2
          all_goals (
            obtain ⟨x6, h6, f6⟩ := two_stores RQ.out HQ.out (by omega) (RC.mk (some ⟨eb, off, none⟩) n c B m d) e.t
            refine bodyPost_ret (v := .tuple #[.agg (aggV (RC.mk (some ⟨eb, off, none⟩) n c B m d).vals), .int .i64 3, .agg (aggV (v3 e.t))]) (results_c3 Try.results20 rfl (loadX (w := World.drew _) x6) rfl rfl (loadRT (w := World.drew _) h6)) rfl ⟨RC.mk (some ⟨eb, off, none⟩) n c B m d, by rw [HH.out.1, HH.out.2.1], ?_, ?_⟩
            · rw [HH.out.2.2]
              exact (ISQ.out.aside RQ.out HQ.out (by decide) (by decide) f6).ali (drew_ali _)
            · have bq : Below w.heap.size w wq := BQ.out
              first
                | exact below_ali (bq.trans (f6.below bq.size (fun j hj e => by rcases e with e | e <;> omega))) (drew_ali _)
                | (rw [← hg] at *; exact below_ali (bq.trans (f6.below bq.size (fun j hj e => by rcases e with e | e <;> omega))) (drew_ali _)))
      · have hdc : decide (e.k = k) = false := by simp [hc]
        rw [hdc] at heq
        have HC := Lib.hid hc
        clear hc hdc
        go_wp2
        go_quiet (fail)
        go_wp2
        go_roundg (n - (j + 1))
        case measure => have := HJ.out; omega
        case rel =>
          refine ⟨j + 1, by omega, by simp, fun x hx => ?_, HA.out.trans (drewN_ali _ _)⟩
          rw [take_more HV.out] at hx
          rcases List.mem_append.1 hx with hx | hx
          · exact NO.out x hx
          · rw [List.mem_singleton.1 hx]; exact HC.out
    · have hlt' : ¬ (j : Int) < n := by omega
      have hat := at_nowhere NO.out (by rw [LE.out]; omega)
      have hh : S.asks k = 1 ∧ S.tell k = zero3 ∧ S.ask k id = ⟨S.E ++ [⟨k, id, false, zero3⟩], S.J, S.q⟩ := by
        have h0 := H0.out
        refine ⟨by simp [CA.asks, h0, hat], by simp [CA.tell, h0, hat], by simp [CA.ask, h0, hat]⟩
      have HH := Lib.hid hh
      have E5 : Hid (EntR (wr.alloc (.cells #[] 41)) wr.heap.size (.slice (some ⟨wr.heap.size, 0, none⟩) 0 0) ([] : List CE)) := Lib.hid (OwnR.empty wr _ (Nat.le_refl _))
      have RE5 := Lib.hid (ISR.out.rowE.later (below_alloc wr (.cells #[] 41)))
      simp only at c0 c1
      have c0' : (wr.alloc (.cells #[] 41)).cell? ⟨g, 0, none⟩ = some (.slice A n c) := cell_alloc c0 _
      clear hh hat d0 d1 d2
      go_wp2_with (first
        | (at_builtin;
           refine wpList_appE (base := wr.heap.size) rfl (.tmp 65) (.tmp 67) rfl rfl rfl E5.out RE5.out (by simp; omega) (by simp) ?_;
           intro v6 w6 own6 gr6 _;
           have b6 := grown_low gr6 (by simp) E5.out.low;
           have b6' : Below wr.heap.size wr w6 := ((Below.refl _ _).alloc (Nat.le_refl _) _).trans b6;
           have O6 : Hid (EntR w6 wr.heap.size v6 S.E) := Lib.hid own6; have B6 := Lib.hid b6'; have K6 := Lib.hid (kb_below K5.out b6');
           obtain ⟨p0, p1, p2⟩ := cells3 K6.out;
           clear own6 gr6 b6 b6' E5 RE5)
        | (at_builtin;
           refine wpList_appE (base := wr.heap.size) rfl (.tmp 69) (.tmp 73) rfl rfl rfl (O6.out.alloc _) (RowR.one (R := erec) w6 ⟨k, id, false, zero3⟩ 41 (cs := #[.int .i64 k.a, .int .i64 k.b, .int .i64 k.c, .int .i64 id, .bool false, .int .i64 0, .int .i64 0, .int .i64 0]) rfl) (by have := LE.out; omega) (by have := B6.out.size; simp; omega) ?_;
           intro v7 w7 own7 gr7 _;
           have b7 := grown_low gr7 (by have := B6.out.size; simp; omega) O6.out.low;
           have b7' : Below wr.heap.size wr w7 := (B6.out.alloc B6.out.size _).trans b7;
           obtain ⟨A7, n7, c7, hv7, _, _, _, _⟩ := own7.row';
           subst hv7;
           have O7 := Lib.hid own7; have B7 := Lib.hid b7'; have X7 := Lib.hid (kb_below X5.out b7'); have R7 := Lib.hid (kb_below R5.out b7'); have H7 := Lib.hid (kb_below H5.out b7');
           obtain ⟨_, z1⟩ := RC.cells_vals X7.out;
           clear own7 gr7 b7 b7')
        | (refine wpList_build_agg rfl 35 #[] rfl (v3 zero3) (buildRT _) ?_)
        | (refine wpList_store_agg rfl 29 _ _ rfl (g + 2) RC.zero.vals (RC.mk A7 n7 c7 B m d).vals rfl rfl ?hz rfl (sizeX _) (RC.ones_vals _) ?_; (case hz => exact R7.out); intro w8 h8 f8 t8;
           have H8 : Hid (w8.heap[g + 3]? = some (vobj 35 (v3 zero3))) := Lib.hid ((f8.block _ (heap_lt H7.out) (show ¬ (g + 3 = g + 2) by omega)).trans H7.out))
        | (refine wpList_store_agg rfl 35 _ _ rfl (g + 3) (v3 zero3) (v3 zero3) rfl rfl ?hz rfl (sizeRT _) (v3_ones _) ?_; (case hz => exact H8.out); intro w9 h9 f9 t9))
      have x9 : w9.heap[g + 2]? = some (vobj 29 (RC.mk A7 n7 c7 B m d).vals) := (f9.block _ (heap_lt h8) (show ¬ (g + 2 = g + 3) by omega)).trans h8
      have tq := T5.out
      have i7 : (RC.mk A7 n7 c7 B m d).Is w7 base ⟨S.E ++ [⟨k, id, false, zero3⟩], S.J, S.q⟩ := ⟨O7.out.mono (Nat.le_trans HB.out BR.out.size), ISR.out.prs.below B7.out⟩
      have bw : Below w.heap.size w w7 := BR.out.trans (B7.out.mono BR.out.size)
      refine bodyPost_ret (v := .tuple #[.agg (aggV (RC.mk A7 n7 c7 B m d).vals), .int .i64 1, .agg (aggV (v3 zero3))]) (results_c3 Try.results20 rfl (loadX x9) rfl rfl (loadRT h9)) rfl ⟨RC.mk A7 n7 c7 B m d, by rw [HH.out.1, HH.out.2.1], ?_, ?_⟩
      · rw [HH.out.2.2]
        exact (i7.beside R7.out (by decide) f8).beside H8.out (by decide) f9
      · have f89 : Below w.heap.size w w9 := (bw.trans (f8.below bw.size (fun j hj e => by have e' : j = g + 2 := e; omega))).trans (f9.below (by have := bw.size; omega) (fun j hj e => by have e' : j = g + 3 := e; omega))
        first | exact f89 | (rw [← hg]; exact f89) | (rw [hg] at f89; exact f89)
/-- Whatever is asked. -/
theorem rask_any (X : RC) (base : Nat) (S : CA) (k : K3) (id : Int) (w : World) (h : X.Is w base S) (hb : base ≤ w.heap.size) (ok : S.Ok) (hk : wf3 k) (hid : wf64 id) (hs : S.size ≤ 1000) :
    Calls Try.prog 20 #[.agg (aggV X.vals), .agg (aggV (v3 k)), .int .i64 id] w fun r w' => ∃ Y : RC, r = .returned (.tuple #[.agg (aggV Y.vals), .int .i64 (S.asks k), .agg (aggV (v3 (S.tell k)))]) ∧ Y.Is w' base (S.ask k id) ∧ Below w.heap.size w w' := by
  by_cases h0 : k.a = 0
  · refine (rask_zero X k id w h0).mono ?_
    rintro r w' ⟨rfl, hb'⟩
    exact ⟨X, by simp [CA.asks, CA.tell, h0], by rw [show S.ask k id = S by simp [CA.ask, h0]]; exact h.below hb', hb'⟩
  · exact rask_some X base S k id w h hb ok hk hid hs h0
end Go.Proofs.Ytlphahkmibhidaa
