/- Contracts of porpoiselaw12: do, where a cache and the document's part. -/
import Derived.Test.YtlphahkmibhidaaDo12c
namespace Go.Proofs.Ytlphahkmibhidaa
set_option linter.unusedVariables false
open Go.ChangeShapes Go.WideShapes Go.ChangeAt Go.RowKit

set_option maxRecDepth 100000 in
set_option maxHeartbeats 4000000 in
theorem do_unlike (w0 : World) (F : Nat → Prop) (b : Nat) (S T : CA) (X : RC) (d : Dd) (w : World) (h : OwC w0 w F b S) (hX : X.Is w w0.heap.size T) (hd : d.Fits) (hok : T.Ok) (hs : S.size ≤ 1000) (ht : T.size ≤ 1000) (h1 : d.kind = 1) (hab : S.asks d.k ≠ T.asks d.k) :
    Calls Try.prog 11 #[.pointer (some ⟨b, 0, none⟩), .agg (aggV X.vals), .agg (aggV d.vals)] w fun r w' => ∃ Y : RC, r = .returned (.tuple #[.agg (aggV Y.vals), .bool (S.alike T d)]) ∧ Did w0 w w' F b S T d Y := by
  have hk1 : (d.kind == 1) = true := by simp [h1]
  have e1 : S.deed d = S.ask d.k d.id := by simp [CA.deed, h1]
  have e2 : T.deed d = T.ask d.k d.id := by simp [CA.deed, h1]
  have hal : S.alike T d = (decide (S.asks d.k = T.asks d.k) && decide (S.tell d.k = T.tell d.k)) := by simp [CA.alike, h1]
  obtain ⟨g, hg⟩ : ∃ g, w.heap.size = g := ⟨_, rfl⟩
  obtain ⟨fs, hu⟩ := undX
  have HU := Lib.hid hu
  obtain ⟨fsk, huk⟩ := undRK
  have HUK := Lib.hid huk
  obtain ⟨sn, hsn⟩ : ∃ sn, S.asks d.k = sn := ⟨_, rfl⟩
  obtain ⟨st, hst⟩ : ∃ st, S.tell d.k = st := ⟨_, rfl⟩
  obtain ⟨tn, htn⟩ : ∃ tn, T.asks d.k = tn := ⟨_, rfl⟩
  obtain ⟨tt, htt⟩ : ∃ tt, T.tell d.k = tt := ⟨_, rfl⟩
  have WS : Hid (wf3 st) := Lib.hid (by rw [← hst]; exact h.ok.tell d.k)
  have WT : Hid (wf3 tt) := Lib.hid (by rw [← htt]; exact hok.tell d.k)
  rw [hsn, htn, hst, htt] at hal
  rw [hsn, htn] at hab
  have HAB := Lib.hid hab
  clear hab
  have HO := Lib.hid h
  have HX := Lib.hid hX
  have HAL := Lib.hid hal
  have E1 := Lib.hid e1
  have E2 := Lib.hid e2
  have HS := Lib.hid hs
  have HTS := Lib.hid ht
  have HOK := Lib.hid hok
  have HI : Hid (wf64 d.id) := Lib.hid hd.id
  have HK : Hid (wf3 d.k) := Lib.hid hd.k
  have SN := Lib.hid hsn
  have ST := Lib.hid hst
  have TN := Lib.hid htn
  have TT := Lib.hid htt
  clear hu huk h hX hal e1 e2 hs ht h1 hd hok hsn hst htn htt
  go_enter Try.func11, Try.ntmps11
  go_wp2_with (first
    | (refine wpList_box_agg rfl 29 _ rfl g hg X.vals rfl ?_; intro w1 h1 l1 t1)
    | (refine wpList_box_agg rfl 37 _ rfl (g + 1) t1 d.vals rfl ?_; intro w2 h2 l2 t2)
    | (refine wpList_alloc_agg rfl 29 rfl (g + 2) t2 RC.zero.vals (allocX _) ?_; intro w3 h3 l3 t3;
       have B3 : Hid (Below w.heap.size w w3) := Lib.hid (by rw [hg]; exact (l1.trans (l2.mono (by omega))).trans (l3.mono (by omega)));
       have X3 : Hid (w3.heap[g]? = some (vobj 29 X.vals)) := Lib.hid (((l3.block g (by omega)).trans (l2.block g (by omega))).trans h1);
       have D3 : Hid (w3.heap[g + 1]? = some (vobj 37 d.vals)) := Lib.hid ((l3.block (g + 1) (by omega)).trans h2);
       have R3 := Lib.hid h3; have S3 := Lib.hid t3;
       obtain ⟨p0, p1, p2, p3, p4, _⟩ := Dd.range D3.out;
       clear h1 h2 h3 l1 l2 l3 t1 t2 t3))
  have HSd : Hid (∀ wx : World, wx.heap[g + 1]? = some (vobj 37 d.vals) → wx.cell? ⟨g + 1, 1, none⟩ = some (.int .i64 d.id) ∧ wx.cell? ⟨g + 1, 2, none⟩ = some (.int .i64 d.k.a) ∧ wx.cell? ⟨g + 1, 3, none⟩ = some (.int .i64 d.k.b) ∧ wx.cell? ⟨g + 1, 4, none⟩ = some (.int .i64 d.k.c)) := Lib.hid (fun wx hx => by
    obtain ⟨_, q1, q2, q3, q4, _⟩ := Dd.range hx
    exact ⟨q1, q2, q3, q4⟩)
  have DD : Hid (w3.drew.heap[g + 1]? = some (vobj 37 d.vals)) := Lib.hid D3.out
  have DA : Hid ((w3.alloc zT).drew.heap[g + 1]? = some (vobj 37 d.vals)) := Lib.hid (kb_alloc D3.out _)
  go_cut [8, 9] (fun v8 v9 wq => ∃ (tb : Nat), v8 = .int .i64 sn ∧ v9 = .pointer (some ⟨tb, 0, none⟩) ∧ wq.heap[tb]? = some (vobj 44 (v3 st)) ∧ OwC w0 wq F b (S.ask d.k d.id) ∧ X.Is wq w0.heap.size T ∧ wq.heap[g]? = some (vobj 29 X.vals) ∧ wq.heap[g + 1]? = some (vobj 37 d.vals) ∧ wq.heap[g + 2]? = some (vobj 29 RC.zero.vals) ∧ Frm (Foot w F) w wq ∧ g + 3 ≤ wq.heap.size)
  case first =>
    have FIN : Hid (∀ (w5 w6 wz : World) (tb : Nat), Below w3.heap.size w3 w5 → OwC w0 w6 F b (S.ask d.k d.id) → Frm (Foot w5 F) w5 w6 → Frm (· = tb) w6 wz → w3.heap.size ≤ tb → (tb < w6.heap.size → w6.heap[tb]? = some (vobj 44 (v3 zero3))) →
        OwC w0 wz F b (S.ask d.k d.id) ∧ X.Is wz w0.heap.size T ∧ wz.heap[g]? = some (vobj 29 X.vals) ∧ wz.heap[g + 1]? = some (vobj 37 d.vals) ∧ wz.heap[g + 2]? = some (vobj 29 RC.zero.vals) ∧ Frm (Foot w F) w wz ∧ g + 3 ≤ wz.heap.size) := Lib.hid (fun w5 w6 wz tb b5 o6 f6 fz htb hz => by
      have s3 := S3.out
      have hb3 : Below w.heap.size w w3 := B3.out
      have hw0 := HO.out.low.size
      have kk : ∀ {j : Nat} {cs : Array Value} {t : TypeId} {z : Nat × Nat}, w3.heap[j]? = some (.cells cs t z) → ¬ Ours t → wz.heap[j]? = some (.cells cs t z) := fun {j cs t z} hj ht => by
        have h6 := foot_kept f6 (kb_below hj b5) ht
        have := heap_lt hj
        exact (fz.block j (heap_lt h6) (show ¬ (j = tb) by omega)).trans h6
      have b35 : Below w.heap.size w w5 := hb3.trans (b5.mono hb3.size)
      have ff := foot_of_below (F := F) (w := w) b35 f6
      have hfz : Frm (Foot w F) w wz := ff.trans fz (fun j hj e => by have e' : j = tb := e; have := hb3.size; exfalso; omega)
      have i6 : X.Is w6 w0.heap.size T := ((HX.out.below B3.out).below b5).foot f6
      refine ⟨?_, ?_, kk X3.out (by decide), kk D3.out (by decide), kk R3.out (by decide), hfz, by have := b5.size; have := f6.size; have := fz.size; omega⟩
      · by_cases hlt : tb < w6.heap.size
        · exact o6.beside (hz hlt) (by decide) fz (by have := hb3.size; omega)
        · exact o6.frm (G := fun _ => False) ⟨fz.os, fz.tape, fz.output, fz.size, fun j hj _ => fz.block j hj (show ¬ (j = tb) by omega)⟩ (fun _ _ h => h.elim) (fun _ h => h.elim)
      · by_cases hlt : tb < w6.heap.size
        · exact i6.beside (hz hlt) (by decide) fz
        · exact i6.frm (F := fun _ => False) ⟨fz.os, fz.tape, fz.output, fz.size, fun j hj _ => fz.block j hj (show ¬ (j = tb) by omega)⟩ (fun _ h => h.elim))
    go_region_held3 (fun v => v.cell? ⟨g + 1, 1, none⟩ = some (.int .i64 d.id) ∧ v.cell? ⟨g + 1, 2, none⟩ = some (.int .i64 d.k.a) ∧ v.cell? ⟨g + 1, 3, none⟩ = some (.int .i64 d.k.b) ∧ v.cell? ⟨g + 1, 4, none⟩ = some (.int .i64 d.k.c))
      (first
        | with_reducible exact HSd.out _ DD.out
        | with_reducible exact HSd.out _ D6.out
        | with_reducible exact HSd.out _ D5.out
        | with_reducible exact HSd.out _ (kb_alloc D6.out _)
        | with_reducible exact HSd.out _ (kb_alloc D5.out _)
        | (have hy6 := Y6.out; exact HSd.out _ (((sets3_frm w6 _ _ _ _).block (g + 1) (heap_lt D6.out) (NE6.out)).trans D6.out))
        | exact HSd.out _ DA.out)
      (first
        | (go_at_call 15; refine (ask_raw w0 F b S w5 ((HO.out.below B3.out).below B5.out) d.k d.id HK.out HI.out HS.out sn st _ SN.out ST.out rfl).mono ?_; rintro r w6 ⟨rfl, o6, f6⟩; have O6 := Lib.hid o6; have F6 := Lib.hid f6; have D6 : Hid (w6.heap[g + 1]? = some (vobj 37 d.vals)) := Lib.hid (foot_kept f6 D5.out (by decide));
           (try (have y5 := Y5.out; have y6 : w6.heap[w3.heap.size]? = some (vobj 44 (v3 zero3)) := foot_kept f6 y5 (by decide); obtain ⟨ya, yb, yc⟩ := cells3 y6; have yf0 := vobj_frozen y6 0; have yf1 := vobj_frozen y6 1; have yf2 := vobj_frozen y6 2; have Y6 := Lib.hid y6; have NE6 : Hid (¬ (g + 1 = w3.heap.size)) := Lib.hid (by have := heap_lt D3.out; omega); clear y5 y6)); clear o6 f6)
        | (go_at_call 15; refine (ask_raw w0 F b S (w5.alloc zT) ((HO.out.below B3.out).below (B5.out.alloc B5.out.size _)) d.k d.id HK.out HI.out HS.out sn st _ SN.out ST.out rfl).mono ?_; rintro r w6 ⟨rfl, o6, f6⟩; have O6 := Lib.hid o6; have F6 := Lib.hid f6; have D6 : Hid (w6.heap[g + 1]? = some (vobj 37 d.vals)) := Lib.hid (foot_kept f6 (kb_alloc D5.out _) (by decide));
           have y6 : w6.heap[w5.heap.size]? = some (vobj 44 (v3 zero3)) := foot_kept f6 (heap_alloc_at w5 zT) (by decide); obtain ⟨ya, yb, yc⟩ := cells3 y6; have yf0 := vobj_frozen y6 0; have yf1 := vobj_frozen y6 1; have yf2 := vobj_frozen y6 2; have Y6 := Lib.hid y6; have NE6 : Hid (¬ (g + 1 = w5.heap.size)) := Lib.hid (by have := heap_lt D5.out; omega); have MID := Lib.hid D5.out; clear y6; clear o6 f6)
        | (go_at_call 16; refine (key_raw d.k _).mono ?_; rintro r w5 ⟨rfl, b5⟩;
           first
             | (have B5 : Hid (Below w3.heap.size w3 w5) := Lib.hid ((ali_below (drew_ali w3)).trans b5))
             | (have B5 : Hid (Below w3.heap.size w3 w5) := Lib.hid ((below_ali (below_alloc w3 zT) (drew_ali _)).trans (b5.mono (by show w3.heap.size ≤ (w3.alloc zT).heap.size; simp))); have Y5 : Hid (w5.heap[w3.heap.size]? = some (vobj 44 (v3 zero3))) := Lib.hid (kb_below (w := (w3.alloc zT).drew) (heap_alloc_at w3 zT) b5));
           have D5 : Hid (w5.heap[g + 1]? = some (vobj 37 d.vals)) := Lib.hid (kb_below D3.out B5.out); clear b5))
    all_goals (go_wp2; go_meet)
    · exact ⟨w6.heap.size, rfl, rfl, heap_alloc_at _ _, FIN.out w5 w6 _ w6.heap.size B5.out O6.out F6.out (Frm.of_below (below_alloc _ _)) (Nat.le_trans B5.out.size F6.out.size) (fun hlt => absurd hlt (by omega))⟩
    · exact ⟨w5.heap.size, rfl, rfl, sets3 Y6.out st, FIN.out (w5.alloc zT) w6 _ w5.heap.size (B5.out.alloc B5.out.size _) O6.out F6.out (sets3_frm w6 _ _ _ _) B5.out.size (fun _ => Y6.out)⟩
    · exact ⟨w3.heap.size, rfl, rfl, sets3 Y6.out st, FIN.out w5 w6 _ w3.heap.size B5.out O6.out F6.out (sets3_frm w6 _ _ _ _) (Nat.le_refl _) (fun _ => Y6.out)⟩
  case rest =>
    obtain ⟨tb, rfl, rfl, t5, o5, i5, x5, d5, z5, ff, s5⟩ := hcut
    have T5 := Lib.hid t5
    have O5 := Lib.hid o5
    have I5 := Lib.hid i5
    have X5 := Lib.hid x5
    have Z5 := Lib.hid z5
    have FF := Lib.hid ff
    have S5 := Lib.hid s5
    have DK := Lib.hid (Dd.rangeK d5)
    obtain ⟨_, q1, _⟩ := Dd.range d5
    clear t5 o5 i5 x5 d5 z5 ff s5 p0 p1 p2 p3 p4 HSd DD DA D3 X3 R3 S3
    go_wp2_with (first
      | (refine wpList_load_agg rfl 29 _ rfl g rfl X.vals ?hy _ HU.out rfl (sizeX _) ?_; (case hy => exact X5.out))
      | (refine wpList_load_mid rfl 33 _ rfl (g + 1) 2 rfl (v3 d.k) _ DK.out HUK.out rfl (sizeRK _) ?_)
      | (go_at_call 20; refine (rask_any X w0.heap.size T d.k d.id wc I5.out O5.out.low.size HOK.out HK.out HI.out HTS.out).mono ?_; rw [TN.out, TT.out]; rintro r w6 ⟨Y, rfl, i6, b6⟩;
         have I6 := Lib.hid i6; have B6 := Lib.hid b6; have O6 := Lib.hid (O5.out.below b6); have Z6 := Lib.hid (kb_below Z5.out b6); have T6 := Lib.hid (kb_below T5.out b6);
         obtain ⟨g6, hg6⟩ : ∃ g6, w6.heap.size = g6 := ⟨_, rfl⟩;
         have S6 : Hid (g + 3 ≤ g6) := Lib.hid (by have := B6.out.size; have := S5.out; omega);
         clear i6 b6)
      | (refine wpList_alloc_agg rfl 29 rfl g6 hg6 RC.zero.vals (allocX _) ?_; intro w7 h7 l7 t7;
         have B7 : Hid (Below w6.heap.size w6 w7) := Lib.hid (by rw [hg6]; exact l7); have H7 := Lib.hid h7; clear h7 l7)
      | (refine wpList_alloc_agg rfl 35 rfl (g6 + 1) t7 (v3 zero3) (allocRT _) ?_; intro w8 h8 l8 t8;
         have B8 : Hid (Below w6.heap.size w6 w8) := Lib.hid (B7.out.trans (l8.mono (by omega))); have H8 := Lib.hid h8; have Y8 : Hid (w8.heap[g6]? = some (vobj 29 RC.zero.vals)) := Lib.hid ((l8.block g6 (by omega)).trans H7.out); clear h8 l8 t8)
      | (refine wpList_store_agg rfl 29 _ _ rfl g6 RC.zero.vals Y.vals rfl rfl ?hz rfl (sizeX _) (RC.ones_vals _) ?_; (case hz => exact Y8.out); intro w9 h9 f9 t9;
         have Y9 := Lib.hid h9; have F9 := Lib.hid f9; have H9 : Hid (w9.heap[g6 + 1]? = some (vobj 35 (v3 zero3))) := Lib.hid ((f9.block (g6 + 1) (heap_lt H8.out) (show ¬ (g6 + 1 = g6) by omega)).trans H8.out);
         clear h9 f9 t9)
      | (refine wpList_store_agg rfl 35 _ _ rfl (g6 + 1) (v3 zero3) (v3 tt) rfl rfl ?hz rfl (sizeRT _) (v3_ones _) ?_; (case hz => exact H9.out); intro w10 h10 f10 t10;
         have H10 := Lib.hid h10; have F10 := Lib.hid f10; clear h10 f10 t10))
    have hw0 := HO.out.low.size
    have s6 := S6.out
    have htb : tb < g6 := by have := heap_lt T6.out; omega
    have O9 := (O6.out.below B8.out).beside Y8.out (by decide) F9.out (by omega)
    have O10 := Lib.hid (O9.beside H9.out (by decide) F10.out (by omega))
    have I10 := Lib.hid (((I6.out.below B8.out).beside Y8.out (by decide) F9.out).beside H9.out (by decide) F10.out)
    have kk : ∀ {j : Nat} {o : Obj}, w6.heap[j]? = some o → w10.heap[j]? = some o := fun {j o} hj => by
      have h8 := kb_below hj B8.out
      have := heap_lt hj
      have h9 := (F9.out.block j (heap_lt h8) (show ¬ (j = g6) by omega)).trans h8
      exact (F10.out.block j (heap_lt h9) (show ¬ (j = g6 + 1) by omega)).trans h9
    have Z10 : Hid (w10.heap[g + 2]? = some (vobj 29 RC.zero.vals)) := Lib.hid (kk Z6.out)
    have T10 : Hid (w10.heap[tb]? = some (vobj 44 (v3 st))) := Lib.hid (kk T6.out)
    have Y10 : Hid (w10.heap[g6]? = some (vobj 29 Y.vals)) := Lib.hid ((F10.out.block g6 (heap_lt Y9.out) (show ¬ (g6 = g6 + 1) by omega)).trans Y9.out)
    have BX : Hid (Below w.heap.size wc w10) := Lib.hid (by
      have e4 : w.heap.size ≤ wc.heap.size := FF.out.size
      have e6 := Nat.le_trans e4 B6.out.size
      have e8 := Nat.le_trans e6 B8.out.size
      have e9 := Nat.le_trans e8 F9.out.size
      exact (((B6.out.mono e4).trans (B8.out.mono e6)).trans (F9.out.below e8 (fun j hj e => by have e' : j = g6 := e; omega))).trans (F10.out.below e9 (fun j hj e => by have e' : j = g6 + 1 := e; omega)))
    clear kk q1 O9
    have hb1 : (sn == tn) = false := by have := HAB.out; simp [this]
    have hal : S.alike T d = false := by rw [HAL.out]; have := HAB.out; simp [this]
    have HA1 := Lib.hid hal
    clear hal
    obtain ⟨y0, y1⟩ := RC.cells_vals Y10.out
    obtain ⟨za, zb⟩ := RC.cells_vals Z10.out
    simp only [RC.zero] at za zb
    have zf0 := vobj_frozen Z10.out 0
    have zf1 := vobj_frozen Z10.out 1
    have FINE : Hid (∀ wz, Ali ((w10.setCell ⟨g + 2, 0, none⟩ (.slice Y.A Y.n Y.c)).setCell ⟨g + 2, 1, none⟩ (.slice Y.B Y.m Y.d)) wz → wz.heap[g + 2]? = some (vobj 29 Y.vals) ∧ Did w0 w wz F b S T d Y) := Lib.hid (fun wz az => by
      have x9 := sets2 (w := w10) Z10.out Y
      have f9 := (sets2_frm w10 (g + 2) (.slice Y.A Y.n Y.c) (.slice Y.B Y.m Y.d)).ali az
      have e10 : w.heap.size ≤ w10.heap.size := Nat.le_trans FF.out.size BX.out.size
      refine ⟨by rw [az.heap]; exact x9, ⟨F, by rw [E1.out]; exact O10.out.beside Z10.out (by decide) f9 (by omega), fun j _ hj => hj⟩, by rw [E2.out]; exact I10.out.beside Z10.out (by decide) f9, ?_⟩
      exact foot_below' FF.out (BX.out.trans (f9.below e10 (fun j hj e => by have e' : j = g + 2 := e; omega))))
    clear hw0 s6 htb hk1 HU HUK WS WT HO HX HAL E1 E2 HS HTS HOK HI HK SN ST TN TT HAB T5 O5 I5 X5 Z5 FF S5 DK I6 B6 O6 Z6 T6 S6 B7 H7 B8 H8 Y8 Y9 F9 H9 H10 F10 O10 I10 Z10 T10 Y10 BX hg6 t7 B3
    go_frame
    go_region
    all_goals go_wp2
    all_goals (
      obtain ⟨x9, did⟩ := FINE.out _ (drew_ali _)
      exact bodyPost_ret (v := .tuple #[.agg (aggV Y.vals), .bool (S.alike T d)]) (results_agg1 Try.results11 rfl (loadX x9) (by rw [HA1.out]; rfl)) rfl ⟨Y, rfl, did⟩)

/-- Whatever is done. -/
theorem do_any (w0 : World) (F : Nat → Prop) (b : Nat) (S T : CA) (X : RC) (d : Dd) (w : World) (h : OwC w0 w F b S) (hX : X.Is w w0.heap.size T) (hd : d.Fits) (hok : T.Ok) (hs : S.size ≤ 1000) (ht : T.size ≤ 1000) :
    Calls Try.prog 11 #[.pointer (some ⟨b, 0, none⟩), .agg (aggV X.vals), .agg (aggV d.vals)] w fun r w' => ∃ Y : RC, r = .returned (.tuple #[.agg (aggV Y.vals), .bool (S.alike T d)]) ∧ Did w0 w w' F b S T d Y := by
  by_cases h1 : d.kind = 1
  · by_cases hab : S.asks d.k = T.asks d.k
    · exact do_ask w0 F b S T X d w h hX hd hok hs ht h1 hab
    · exact do_unlike w0 F b S T X d w h hX hd hok hs ht h1 hab
  · by_cases h2 : d.kind = 2
    · exact do_settle w0 F b S T X d w h hX hd hok ht h2
    · exact do_close w0 F b S T X d w h hX hd hs ht h1 h2
end Go.Proofs.Ytlphahkmibhidaa
