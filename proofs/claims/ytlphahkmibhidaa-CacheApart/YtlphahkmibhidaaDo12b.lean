/- Contracts of porpoiselaw12: do of Settle. -/
import Derived.Test.YtlphahkmibhidaaDo12
namespace Go.Proofs.Ytlphahkmibhidaa
set_option linter.unusedVariables false
open Go.ChangeShapes Go.WideShapes Go.ChangeAt Go.RowKit

theorem told_raw (k : K3) (w : World) : Calls Try.prog 18 #[.agg #[.int .i64 k.a, .int .i64 k.b, .int .i64 k.c]] w fun r w' => r = .returned (.agg (aggV (v3 k))) ∧ Below w.heap.size w w' := told_any k w
set_option maxRecDepth 100000 in
set_option maxHeartbeats 4000000 in
theorem do_settle (w0 : World) (F : Nat → Prop) (b : Nat) (S T : CA) (X : RC) (d : Dd) (w : World) (h : OwC w0 w F b S) (hX : X.Is w w0.heap.size T) (hd : d.Fits) (hok : T.Ok) (ht : T.size ≤ 1000) (h2 : d.kind = 2) :
    Calls Try.prog 11 #[.pointer (some ⟨b, 0, none⟩), .agg (aggV X.vals), .agg (aggV d.vals)] w fun r w' => ∃ Y : RC, r = .returned (.tuple #[.agg (aggV Y.vals), .bool (S.alike T d)]) ∧ Did w0 w w' F b S T d Y := by
  have hk1 : (d.kind == 1) = false := by simp [h2]
  have hk2 : (d.kind == 2) = true := by simp [h2]
  have hal : S.alike T d = decide (S.joined d.id = T.joined d.id) := by simp [CA.alike, h2]
  have e1 : S.deed d = S.settle d.id d.t := by simp [CA.deed, h2]
  have e2 : T.deed d = T.settle d.id d.t := by simp [CA.deed, h2]
  obtain ⟨g, hg⟩ : ∃ g, w.heap.size = g := ⟨_, rfl⟩
  obtain ⟨fs, hu⟩ := undX
  have HU := Lib.hid hu
  obtain ⟨fst, hut⟩ := undRT
  have HUT := Lib.hid hut
  have HO := Lib.hid h
  have HX := Lib.hid hX
  have HAL := Lib.hid hal
  have E1 := Lib.hid e1
  have E2 := Lib.hid e2
  have HTS := Lib.hid ht
  have HOK := Lib.hid hok
  have HI : Hid (wf64 d.id) := Lib.hid hd.id
  have HT : Hid (wf3 d.t) := Lib.hid hd.t
  clear hu hut h hX hal e1 e2 ht h2 hd hok
  go_enter Try.func11, Try.ntmps11
  go_wp2_with (first
    | (refine wpList_box_agg rfl 29 _ rfl g hg X.vals rfl ?_; intro w1 h1 l1 t1)
    | (refine wpList_box_agg rfl 37 _ rfl (g + 1) t1 d.vals rfl ?_; intro w2 h2 l2 t2)
    | (refine wpList_alloc_agg rfl 29 rfl (g + 2) t2 RC.zero.vals (allocX _) ?_; intro w3 h3 l3 t3;
       have B3 : Hid (Below w.heap.size w w3) := Lib.hid (by rw [hg]; exact (l1.trans (l2.mono (by omega))).trans (l3.mono (by omega)));
       have X3 : Hid (w3.heap[g]? = some (vobj 29 X.vals)) := Lib.hid (((l3.block g (by omega)).trans (l2.block g (by omega))).trans h1);
       have D3 : Hid (w3.heap[g + 1]? = some (vobj 37 d.vals)) := Lib.hid ((l3.block (g + 1) (by omega)).trans h2);
       have R3 := Lib.hid h3; have S3 := Lib.hid t3;
       obtain ⟨p0, p1, _, _, _, p5, p6, p7⟩ := Dd.range D3.out;
       clear h1 h2 h3 l1 l2 l3 t1 t2 t3))
  have HSd : Hid (∀ wx : World, wx.heap[g + 1]? = some (vobj 37 d.vals) → wx.cell? ⟨g + 1, 1, none⟩ = some (.int .i64 d.id) ∧ wx.cell? ⟨g + 1, 5, none⟩ = some (.int .i64 d.t.a) ∧ wx.cell? ⟨g + 1, 6, none⟩ = some (.int .i64 d.t.b) ∧ wx.cell? ⟨g + 1, 7, none⟩ = some (.int .i64 d.t.c)) := Lib.hid (fun wx hx => by
    obtain ⟨_, q1, _, _, _, q5, q6, q7⟩ := Dd.range hx
    exact ⟨q1, q5, q6, q7⟩)
  have DD : Hid (w3.drew.heap[g + 1]? = some (vobj 37 d.vals)) := Lib.hid D3.out
  go_cut [13] (fun v13 wq => ∃ (A : Option Addr) (n c : Nat) (F' : Nat → Prop), v13 = .slice A n c ∧ Ints wq w0.heap.size (.slice A n c) (S.joined d.id) ∧ OwC w0 wq F' b (S.settle d.id d.t) ∧ (∀ j, F' j → F j) ∧ X.Is wq w0.heap.size T ∧ wq.heap[g]? = some (vobj 29 X.vals) ∧ wq.heap[g + 1]? = some (vobj 37 d.vals) ∧ wq.heap[g + 2]? = some (vobj 29 RC.zero.vals) ∧ Frm (Foot w F) w wq ∧ g + 3 ≤ wq.heap.size)
  case first =>
    go_region_held3 (fun v => v.cell? ⟨g + 1, 1, none⟩ = some (.int .i64 d.id) ∧ v.cell? ⟨g + 1, 5, none⟩ = some (.int .i64 d.t.a) ∧ v.cell? ⟨g + 1, 6, none⟩ = some (.int .i64 d.t.b) ∧ v.cell? ⟨g + 1, 7, none⟩ = some (.int .i64 d.t.c))
      (first | with_reducible exact HSd.out _ DD.out | with_reducible exact HSd.out _ D5.out | with_reducible exact HSd.out _ D4.out)
      (first
        | (go_at_call 18; refine (told_raw d.t _).mono ?_; rintro r w4 ⟨rfl, b4⟩; have B4 : Hid (Below w3.heap.size w3 w4) := Lib.hid ((ali_below (drew_ali w3)).trans b4); have D4 := Lib.hid (kb_below D3.out B4.out); clear b4)
        | (go_at_call 17; refine (oc_settle w0 F b S w4 ((HO.out.below B3.out).below B4.out) d.id d.t HI.out HT.out _ _ rfl rfl).mono ?_; rintro r w5 ⟨A, n, c, rfl, r5, o5, f5⟩; have R5 := Lib.hid r5; have O5 := Lib.hid o5; have F5 := Lib.hid f5; have D5 : Hid (w5.heap[g + 1]? = some (vobj 37 d.vals)) := Lib.hid (foot_kept f5 D4.out (by decide)); clear r5 o5 f5))
    all_goals (go_wp2; go_meet)
    have b34 : Below w.heap.size w w4 := B3.out.trans (B4.out.mono B3.out.size)
    have ff := foot_of_below (F := F) (w := w) (by first | exact b34 | (rw [hg] at b34 ⊢; exact b34)) F5.out
    exact ⟨A, n, c, _, rfl, R5.out, O5.out, fun j hj => hj.1, ((HX.out.below B3.out).below B4.out).foot F5.out, foot_kept F5.out (kb_below X3.out B4.out) (by decide), D5.out, foot_kept F5.out (kb_below R3.out B4.out) (by decide), ff, by have := S3.out; have := B4.out.size; have := F5.out.size; omega⟩
  case rest =>
    obtain ⟨A, n, c, F', rfl, r5, o5, hF', i5, x5, d5, z5, ff, s5⟩ := hcut
    have RW := Lib.hid r5
    have O5 := Lib.hid o5
    have HFF := Lib.hid hF'
    have I5 := Lib.hid i5
    have X5 := Lib.hid x5
    have Z5 := Lib.hid z5
    have FF := Lib.hid ff
    have S5 := Lib.hid s5
    have DT := Lib.hid (Dd.rangeT d5)
    obtain ⟨_, q1, _⟩ := Dd.range d5
    clear r5 o5 hF' i5 x5 d5 z5 ff s5 p0 p1 p5 p6 p7 HSd DD D3 X3 R3 S3
    go_wp2_with (first
      | (refine wpList_load_agg rfl 29 _ rfl g rfl X.vals ?hy _ HU.out rfl (sizeX _) ?_; (case hy => exact X5.out))
      | (refine wpList_load_mid rfl 35 _ rfl (g + 1) 5 rfl (v3 d.t) _ DT.out HUT.out rfl (sizeRT _) ?_)
      | (go_at_call 21; refine (rsettle_any X w0.heap.size T d.id d.t wc I5.out O5.out.low.size HOK.out HTS.out).mono ?_; rintro r w6 ⟨Y, v, rfl, i6, r6, b6⟩;
         obtain ⟨B, m, e, hv, _, _, _, _⟩ := own_row' r6; subst hv;
         have I6 := Lib.hid i6; have R6 := Lib.hid r6; have B6 := Lib.hid b6; have O6 := Lib.hid (O5.out.below b6); have Z6 := Lib.hid (kb_below Z5.out b6); have RW6 := Lib.hid (RW.out.below b6);
         obtain ⟨g6, hg6⟩ : ∃ g6, w6.heap.size = g6 := ⟨_, rfl⟩;
         have S6 : Hid (g + 3 ≤ g6) := Lib.hid (by have := B6.out.size; have := S5.out; omega);
         clear i6 r6 b6)
      | (refine wpList_alloc_agg rfl 29 rfl g6 hg6 RC.zero.vals (allocX _) ?_; intro w7 h7 l7 t7;
         have B7 : Hid (Below w6.heap.size w6 w7) := Lib.hid (by rw [hg6]; exact l7); have H7 := Lib.hid h7; have Z7 := Lib.hid (kb_below Z6.out B7.out); clear h7 l7 t7)
      | (refine wpList_store_agg rfl 29 _ _ rfl g6 RC.zero.vals Y.vals rfl rfl ?hz rfl (sizeX _) (RC.ones_vals _) ?_; (case hz => exact H7.out); intro w8 h8 f8 t8;
         have H8 := Lib.hid h8; have F8 := Lib.hid f8; have Z8 : Hid (w8.heap[g + 2]? = some (vobj 29 RC.zero.vals)) := Lib.hid ((f8.block (g + 2) (heap_lt Z7.out) (by have := S6.out; show ¬ (g + 2 = g6); omega)).trans Z7.out);
         clear h8 f8 t8))
    have hw0 := HO.out.low.size
    have s6 := S6.out
    have O8 := Lib.hid ((O6.out.below B7.out).beside H7.out (by decide) F8.out (by omega))
    have I8 := Lib.hid ((I6.out.below B7.out).beside H7.out (by decide) F8.out)
    have RA8 : Hid (Ints w8 w0.heap.size (.slice A n c) (S.joined d.id)) := Lib.hid ((RW6.out.below B7.out).frm F8.out (one_typ H7.out (by decide)))
    have RB8 : Hid (Ints w8 wc.heap.size (.slice B m e) (T.joined d.id)) := Lib.hid ((R6.out.below B7.out).frm F8.out (one_typ H7.out (by decide)))
    obtain ⟨y0, y1⟩ := RC.cells_vals H8.out
    have hsa : ∀ wx, Ali w8 wx → Calls Try.prog 19 #[.slice A n c, .slice B m e] wx fun r w' => r = .returned (.bool (S.alike T d)) ∧ Ali wx w' := fun wx hx => by
      have ra := RA8.out.ali hx
      have rb := RB8.out.ali hx
      rw [HAL.out]
      exact same_any A B n c m e _ _ wx ra.row.1 ra.row.2.1 rb.row.1 rb.row.2.1
    have HSA := Lib.hid hsa
    have HSy : Hid (∀ wx : World, wx.heap[g6]? = some (vobj 29 Y.vals) → wx.cell? ⟨g6, 0, none⟩ = some (.slice Y.A Y.n Y.c) ∧ wx.cell? ⟨g6, 1, none⟩ = some (.slice Y.B Y.m Y.d)) := Lib.hid (fun wx hx => RC.cells_vals hx)
    have Y8 : Hid (w8.drew.heap[g6]? = some (vobj 29 Y.vals)) := Lib.hid H8.out
    have hne : g6 ≠ g + 2 := by omega
    obtain ⟨al, hal⟩ : ∃ al, S.alike T d = al := ⟨_, rfl⟩
    rw [hal] at HSA
    have HA2 := Lib.hid hal
    clear q1 y0 y1 hsa hal
    go_region_held3 (fun v => v.cell? ⟨g6, 0, none⟩ = some (.slice Y.A Y.n Y.c) ∧ v.cell? ⟨g6, 1, none⟩ = some (.slice Y.B Y.m Y.d))
      (first | with_reducible exact HSy.out _ Y8.out | with_reducible exact HSy.out _ Y9.out | exact HSy.out _ ((heap_set_other hne _).trans ((heap_set_other hne _).trans Y9.out)))
      (first
        | (go_at_call 19; refine (HSA.out _ (drew_ali _)).mono ?_; rintro r w9 ⟨rfl, a9⟩; have A9 : Hid (Ali w8 w9) := Lib.hid ((drew_ali w8).trans a9); have Y9 := Lib.hid (kb_below H8.out (ali_below A9.out)); have z9 := kb_below Z8.out (ali_below A9.out); obtain ⟨za, zb⟩ := RC.cells_vals z9; have zf0 := vobj_frozen z9 0; have zf1 := vobj_frozen z9 1; have Z9 := Lib.hid z9; clear a9 z9))
    all_goals go_wp2
    all_goals (
      have x9 := sets2 Z9.out Y
      have f9 := sets2_frm w9 (g + 2) (.slice Y.A Y.n Y.c) (.slice Y.B Y.m Y.d)
      refine bodyPost_ret (v := .tuple #[.agg (aggV Y.vals), .bool (S.alike T d)]) (results_agg1 Try.results11 rfl (loadX x9) (by rw [HA2.out]; rfl)) rfl ⟨Y, rfl, ⟨F', by rw [E1.out]; exact (O8.out.ali A9.out).beside Z9.out (by decide) f9 (by omega), fun j _ hj => HFF.out j hj⟩, by rw [E2.out]; exact (I8.out.ali A9.out).beside Z9.out (by decide) f9, ?_⟩
      have bx : Below w.heap.size wc ((w9.setCell ⟨g + 2, 0, none⟩ (.slice Y.A Y.n Y.c)).setCell ⟨g + 2, 1, none⟩ (.slice Y.B Y.m Y.d)) := by
        have e4 : w.heap.size ≤ wc.heap.size := FF.out.size
        have e6 := Nat.le_trans e4 B6.out.size
        have e7 := Nat.le_trans e6 B7.out.size
        have e8 := Nat.le_trans e7 F8.out.size
        have b8 : Below w.heap.size wc w8 := ((B6.out.mono e4).trans (B7.out.mono e6)).trans (F8.out.below e7 (fun j hj e => by have e' : j = g6 := e; omega))
        exact (below_ali b8 A9.out).trans (f9.below (by rw [A9.out.heap]; exact e8) (fun j hj e => by have e' : j = g + 2 := e; omega))
      exact foot_below' FF.out bx)
end Go.Proofs.Ytlphahkmibhidaa
