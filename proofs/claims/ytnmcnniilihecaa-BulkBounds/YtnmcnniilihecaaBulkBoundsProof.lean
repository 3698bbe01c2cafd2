/- What is proved: BulkBounds of porpoiselaw10 answers true for every input, and leaves its arguments as they were; conditions: those of the given row alone. -/
import Derived.Test.YtnmcnniilihecaaKit
import Derived.Test.YtnmcnniilihecaaRan10
namespace Go.Proofs.Ytnmcnniilihecaa.bulkBounds
open Go.ChangeShapes Go.WideShapes Go.ChangeAt Go.RowKit Go.Deep
open Go.ChangeMaps (open_string shut_string)
set_option linter.unusedVariables false

theorem own : ownKnob Try.prog.godebug = none := by kernel_rfl
theorem laidOut : laidOutB Try.prog = true := by kernel_rfl

theorem not_taken {L : List Int} (h : L.Nodup) {j : Nat} (hj : j < L.length) : L.getD j 0 ∉ L.take j := by
  have e : L.getD j 0 = L[j] := by simp [List.getD, hj]
  rw [e]
  intro hc
  obtain ⟨i, hi, hie⟩ := List.mem_iff_getElem.1 hc
  rw [List.getElem_take] at hie
  have hij : i < j := by simp at hi; omega
  exact List.pairwise_iff_getElem.1 h i j (by omega) hj hij hie
theorem row_take {w : World} {vb voff n j : Nat} {L : List Int} (h : Row .i64 w (some ⟨vb, voff, none⟩) n L) (hl : L.length = n) (hj : j < n) : Row .i64 w (some ⟨vb, voff, none⟩) j (L.take j) := by
  obtain ⟨h1, h2, h3, h4⟩ := h
  refine ⟨by simp; omega, by omega, ?_, fun z hz => h4 z (List.mem_of_mem_take hz)⟩
  rcases h3 with h0 | ⟨b, off, e, hc⟩
  · omega
  · refine .inr ⟨b, off, e, fun i hi => ?_⟩
    simp at hi
    rw [hc i (by omega)]
    simp [List.getD, show i < j by omega]

set_option maxRecDepth 100000 in
set_option maxHeartbeats 2000000 in
theorem walk (w : World) (c0 : Array Value) (w0 : Flat [.int .u8, .int .u8] c0.toList) (a1 : Bool) (a2 : Option Addr) (l2 k2 : Nat) (L2 : List (List Value)) (w2 : SliceIn w [.int .i64, .int .i64] 16 a2 l2 k2 L2) :
    Calls Try.prog 4 #[.agg c0, .bool a1, .slice a2 l2 k2] w fun e w' => e = .returned (.bool true) ∧ Below w.heap.size w w' := by
  obtain ⟨m, q, rfl, hm0, hq0⟩ := w0.two
  have hm : 0 ≤ m ∧ m ≤ 255 := u8_wf hm0
  have hq : 0 ≤ q ∧ q ≤ 255 := u8_wf hq0
  have hml := w2.2.2.2.2.1
  have hlk := w2.2.2.1
  unfold maxLen at hml
  obtain ⟨N, hN⟩ : ∃ N, (if 100 < l2 then 100 else l2) = N := ⟨_, rfl⟩
  have hN' : N ≤ l2 ∧ N ≤ 100 ∧ (N < 100 → N = l2) := by rw [← hN]; split <;> omega
  obtain ⟨fs, hu⟩ := undC
  have HU := Lib.hid hu
  obtain ⟨fs', hu'⟩ := undR
  have HU' := Lib.hid hu'
  have HS := Lib.hid w2
  have HM := Lib.hid hm
  have HQ := Lib.hid hq
  clear w0 w2 hm0 hq0 hm hq hu hu' hN
  have b0 := below_alloc w (.cells #[.int .u8 m, .int .u8 q] 43)
  have e0 : (w.alloc (.cells #[.int .u8 m, .int .u8 q] 43)).heap[w.heap.size]? = some (vobj 43 [.int .u8 m, .int .u8 q]) := heap_alloc_at w _
  generalize hW : w.alloc (.cells #[.int .u8 m, .int .u8 q] 43) = wx at *
  have B0 := Lib.hid b0
  have E0 := Lib.hid e0
  clear b0 e0
  go_enter Try.func4, Try.ntmps4
  go_wp2_with fail
  refine (awake_any _).mono ?_
  rintro r wa ⟨rfl, ba⟩
  have e1 : wa.heap[w.heap.size]? = some (vobj 43 [.int .u8 m, .int .u8 q]) := kb_below E0.out ba
  have c0 : wa.cell? ⟨w.heap.size, 0, none⟩ = some (.int .u8 m) := vobj_cell e1 rfl
  have c1 : wa.cell? ⟨w.heap.size, 1, none⟩ = some (.int .u8 q) := vobj_cell e1 rfl
  have BA := Lib.hid (B0.out.trans (ba.mono B0.out.size))
  clear ba e1 hW B0 E0
  go_wp2_with fail
  refine (conf_any a1 m q wa HM.out HQ.out).mono ?_
  rintro r wb ⟨c, rfl, n, k, hc, hn1, hps, hqk, bb⟩
  have HC := Lib.hid hc
  have BB := Lib.hid (BA.out.trans (bb.mono BA.out.size))
  have hn8 : n ≤ 8 := hc.1
  have hk8 : k ≤ 8 := hc.2.1
  obtain ⟨g8, hg8⟩ : ∃ g8, wb.heap.size = g8 := ⟨_, rfl⟩
  clear hc bb BA c0 c1
  go_wp2_with (first
    | (refine wpList_alloc_agg rfl 24 rfl g8 hg8 Cnf.zero.vals (allocC _) ?_; intro wc h6 l6 t6;
       have BC : Hid (Below w.heap.size w wc) := Lib.hid (BB.out.trans (l6.mono (by have := BB.out.size; omega)));
       have H6 := Lib.hid h6; clear h6 l6 t6)
    | (refine wpList_store_agg rfl 24 _ _ rfl g8 Cnf.zero.vals c.vals rfl rfl ?hz rfl (sizeC _) (Cnf.ones_vals _) ?_; (case hz => exact H6.out); intro wd h7 f7 t7;
       have BD : Hid (Below w.heap.size w wd) := Lib.hid (BC.out.trans (f7.below BC.out.size (fun j hj e => by have e' : j = g8 := e; have := BB.out.size; omega)));
       have H7 := Lib.hid h7; clear h7 f7 t7 H6)
    | (refine wpList_load_agg rfl 24 _ rfl g8 rfl c.vals ?hy _ HU.out rfl (sizeC _) ?_; (case hy => exact H7.out))
    | (refine wpList_load_agg rfl 24 _ rfl g8 rfl c.vals ?hy _ HU.out rfl (sizeC _) ?_; (case hy => exact H72.out))
    | (go_at_call 10; refine (ou_new w wd c n k HC.out BD.out).mono ?_; rintro r w2 ⟨b, rfl, f, o2, b2⟩;
       have H72 := Lib.hid (kb_below H7.out b2); have O2 := Lib.hid o2; clear o2 b2 H7)
    | (go_at_call 11; refine (rnew_bulk c n k w2 HC.out).mono ?_; rintro r w3 ⟨rfl, b3⟩;
       have O3 := Lib.hid (O2.out.below b3); have H73 := Lib.hid (kb_below H72.out b3); obtain ⟨xb, hxb⟩ : ∃ xb, w3.heap.size = xb := ⟨_, rfl⟩; clear b3 H72 O2)
    | (refine wpList_alloc_agg rfl 31 rfl xb hxb RK.zero.vals (allocR _) ?_; intro w4 h4 l4 t4;
       have O4 := Lib.hid (O3.out.below (by rw [hxb]; exact l4)); have H4 := Lib.hid h4; have H74 := Lib.hid ((l4.block g8 (by have := heap_lt H73.out; omega)).trans H73.out); clear l4 h4)
    | (refine wpList_store_agg rfl 31 _ _ rfl xb RK.zero.vals (RK.ofC c).vals rfl rfl ?hz rfl (sizeR _) (RK.ones_vals _) ?_; (case hz => exact H4.out); intro w5 h5 f5 t5;
       have X5 := Lib.hid h5;
       have hwx : w.heap.size ≤ xb := (by have := O3.out.low.size; omega);
       have O5 := Lib.hid (O4.out.beside H4.out (by decide) f5 hwx);
       have H75 := Lib.hid ((f5.block g8 (heap_lt H74.out) (by have := heap_lt H73.out; show ¬ (g8 = xb); omega)).trans H74.out);
       clear h5 f5 O3 O4 H4 H73 H74))
  clear hxb t4 t5 hg8 BB BC BD HU
  go_loopg [12] N (fun g v12 wr => ∃ (i : Nat) (S : BU) (X : RK), i + g = N ∧ v12 = .int .i64 i ∧ S.Of n k ((L2.map idOf).take 100) ∧ OwU w wr b f S ∧ X.Is wr w.heap.size S ∧ wr.heap[xb]? = some (vobj 31 X.vals) ∧ wr.heap[g8]? = some (vobj 24 c.vals))
  case atStart => exact ⟨0, BU.none_ n k, RK.ofC c, by omega, rfl, BU.Of.none_ n k _, O5.out, RK.ofC_is HC.out _ _, X5.out, H75.out⟩
  case round =>
    obtain ⟨i, S, X, hg, rfl, hof, how, hi, hx, h8⟩ := hrel
    have G := Lib.hid hg
    have OF := Lib.hid hof
    have OW := Lib.hid how
    have IX := Lib.hid hi
    have HX := Lib.hid hx
    have H8 := Lib.hid h8
    clear hg hof how hx hi h8 X5 O5 H75
    by_cases hin : i < N
    · have hi1 : (i : Int) < l2 := by omega
      have hi2 : (i : Int) < 100 := by omega
      obtain ⟨blk, off, kd, z, rfl, q0, q1, hz, hid⟩ := deed_at HS.out (i := i) (by omega)
      have hzT := mem_ids hid (by omega)
      have HR : Hid (∀ v, v.heap[xb]? = some (vobj 31 X.vals) → Below w.heap.size w v → v.cell? ⟨xb, 0, none⟩ = some (.int .i64 X.most) ∧ v.cell? ⟨xb, 1, none⟩ = some (.int .i64 X.que) ∧ v.cell? ⟨xb, 2, none⟩ = some (.slice X.A X.n X.c) ∧ v.cell? ⟨xb, 3, none⟩ = some (.slice X.B X.m X.d) ∧
          v.cell? ⟨blk, off + i * 2, none⟩ = some (.int .i64 kd) ∧ v.cell? ⟨blk, off + i * 2 + 1, none⟩ = some (.int .i64 z)) :=
        Lib.hid (fun v hv hb => ⟨vobj_cell hv rfl, vobj_cell hv rfl, vobj_cell hv rfl, vobj_cell hv rfl, cell_later hb q0, cell_later hb q1⟩)
      have HZ := Lib.hid hz
      have HT := Lib.hid hzT
      have hwl := OW.out.low.size
      have hxl := heap_lt HX.out
      have hxn : xb ≠ wr.heap.size := by omega
      have h8l := heap_lt H8.out
      have h8n : g8 ≠ wr.heap.size := by omega
      clear q0 q1 hz hzT hid
      go_wp2
      go_cut [13, 14] (fun vy vs wq => ∃ (yb : Nat) (Y : RK), vy = .pointer (some ⟨yb, 0, none⟩) ∧ vs = .bool true ∧ w.heap.size ≤ yb ∧ OwU w wq b f (S.deed kd z) ∧ Y.Is wq w.heap.size (S.deed kd z) ∧ wq.heap[xb]? = some (vobj 31 X.vals) ∧ wq.heap[yb]? = some (vobj 31 Y.vals) ∧ wq.heap[g8]? = some (vobj 24 c.vals))
      case first =>
        go_region_held3 (fun v => v.cell? ⟨xb, 0, none⟩ = some (.int .i64 X.most) ∧ v.cell? ⟨xb, 1, none⟩ = some (.int .i64 X.que) ∧ v.cell? ⟨xb, 2, none⟩ = some (.slice X.A X.n X.c) ∧ v.cell? ⟨xb, 3, none⟩ = some (.slice X.B X.m X.d) ∧
          v.cell? ⟨blk, off + i * 2, none⟩ = some (.int .i64 kd) ∧ v.cell? ⟨blk, off + i * 2 + 1, none⟩ = some (.int .i64 z))
          (first
            | with_reducible exact HR.out _ x5 o5.low
            | with_reducible exact HR.out _ (kb_alloc x5 _) (o5.below (below_alloc _ _)).low
            | (have hy5 := y5; exact HR.out _ (((sets_frm w5 wr.heap.size _ _ _ _).block xb (heap_lt x5) hxn).trans x5) (o5.beside y5 (by decide) (sets_frm w5 wr.heap.size _ _ _ _) hwl).low)
            | exact HR.out (World.drew _) HX.out (OW.out.ali (drew_ali _)).low
            | exact HR.out (World.drew _) (kb_alloc HX.out _) ((OW.out.below (below_alloc _ _)).ali (drew_ali _)).low)
          (first
            | (go_at_call 12; refine (do_raw w b f S X kd z _ (OW.out.ali (drew_ali _)) (IX.out.ali (drew_ali _)) HZ.out).mono ?_; rintro r w5 ⟨Y, rfl, i5, o5, f5⟩; have I5 := Lib.hid i5; have x5 : w5.heap[xb]? = some (vobj 31 X.vals) := (OW.out.ali (drew_ali _)).bul.kept f5 (j := xb) HX.out (by decide); have q8 : w5.heap[g8]? = some (vobj 24 c.vals) := (OW.out.ali (drew_ali _)).bul.kept f5 (j := g8) H8.out (by decide))
            | (go_at_call 12; refine (do_raw w b f S X kd z _ ((OW.out.below (below_alloc _ _)).ali (drew_ali _)) ((IX.out.below (below_alloc _ _)).ali (drew_ali _)) HZ.out).mono ?_; rintro r w5 ⟨Y, rfl, i5, o5, f5⟩; have I5 := Lib.hid i5; have x5 : w5.heap[xb]? = some (vobj 31 X.vals) := ((OW.out.below (below_alloc _ _)).ali (drew_ali _)).bul.kept f5 (j := xb) (kb_alloc HX.out _) (by decide); have y5 : w5.heap[wr.heap.size]? = some (vobj 31 RK.zero.vals) := ((OW.out.below (below_alloc _ _)).ali (drew_ali _)).bul.kept f5 (j := wr.heap.size) (heap_alloc_at wr _) (by decide); have q8 : w5.heap[g8]? = some (vobj 24 c.vals) := ((OW.out.below (below_alloc _ _)).ali (drew_ali _)).bul.kept f5 (j := g8) (kb_alloc H8.out _) (by decide); obtain ⟨ya, yc, yd, yg⟩ := RK.cells_vals y5; have yf0 := vobj_frozen y5 0; have yf1 := vobj_frozen y5 1; have yf2 := vobj_frozen y5 2; have yf3 := vobj_frozen y5 3))
        all_goals (go_wp2; go_meet)
        · exact ⟨w5.heap.size, Y, rfl, rfl, o5.low.size, o5.below (below_alloc _ _), I5.out.below (below_alloc _ _), kb_alloc x5 _, heap_alloc_at _ _, kb_alloc q8 _⟩
        · exact ⟨wr.heap.size, Y, rfl, rfl, hwl, o5.beside y5 (by decide) (sets_frm w5 wr.heap.size _ _ _ _) hwl, I5.out.beside y5 (by decide) (sets_frm w5 wr.heap.size _ _ _ _), ((sets_frm w5 wr.heap.size _ _ _ _).block xb (heap_lt x5) hxn).trans x5, sets_rk y5 Y, ((sets_frm w5 wr.heap.size _ _ _ _).block g8 (heap_lt q8) h8n).trans q8⟩
      case rest =>
        obtain ⟨yb, Y, rfl, rfl, hyb, o6, i6, x6, y6, q8⟩ := hcut
        have OFY : Hid ((S.deed kd z).Of n k ((L2.map idOf).take 100)) := Lib.hid (OF.out.deed kd HT.out)
        have O6 := Lib.hid o6
        have I6 := Lib.hid i6
        have X6 := Lib.hid x6
        have Y6 := Lib.hid y6
        have Q8 := Lib.hid q8
        have hx8 : g8 ≠ xb := by
          rintro rfl
          rw [q8] at x6
          injection x6 with x6
          injection x6 with _ x6
          exact absurd x6 (by decide)
        clear q8
        clear o6 i6 x6 y6 HR
        go_wp2_with (first
          | (refine wpList_load_agg rfl 31 _ rfl yb rfl Y.vals ?hy _ HU'.out rfl (sizeR _) ?_; (case hy => exact Y6.out))
          | (refine wpList_store_agg rfl 31 _ _ rfl xb X.vals Y.vals rfl rfl ?hz rfl (sizeR _) (RK.ones_vals _) ?_; (case hz => exact X6.out); intro w7 h7 f7 t7; have X7 := Lib.hid h7; have O7 := Lib.hid (O6.out.beside X6.out (by decide) f7 hwx); have I7 := Lib.hid (I6.out.beside X6.out (by decide) f7); have R8 := Lib.hid ((f7.block g8 (heap_lt Q8.out) hx8).trans Q8.out); clear h7 f7 t7 X6 O6 I6))
        obtain ⟨S', hS'⟩ : ∃ S', S.deed kd z = S' := ⟨_, rfl⟩
        rw [hS'] at O7 I7 OFY
        clear hS'
        go_wp2_with fail
        refine (ou_waiting w b f S' w7 O7.out S'.wait rfl).mono ?_
        rintro r w8 ⟨A8, k8, c8, rfl, i8, b8⟩
        have O8 := Lib.hid (O7.out.below b8)
        have I8 := Lib.hid (I7.out.below b8)
        have X8 := Lib.hid (kb_below X7.out b8)
        have R88 := Lib.hid (kb_below R8.out b8)
        have W8 := Lib.hid i8
        have hk8' : S'.wait.length = k8 := i8.row.2.1
        have hkk : (k8 : Int) ≤ (k : Int) := by have := O7.out.bul.ok.lw; rw [OFY.out.que] at this; omega
        have hkk8 : k8 ≤ 8 := by omega
        obtain ⟨z1, hz1⟩ : ∃ z1, S'.run.length = z1 := ⟨_, rfl⟩
        have hzn : (z1 : Int) ≤ (n : Int) := by have := O7.out.bul.ok.lr; rw [OFY.out.most] at this; omega
        have HZ1 := Lib.hid hz1
        have HK8 := Lib.hid hk8'
        clear i8 b8 O7 I7 X7 R8 Q8 Y6 hk8' hz1
        have p1 : ∀ p : Later w8, p.v.cell? ⟨g8, 1, none⟩ = some (.int .i64 c.pool) := fun p => p.cell (Cnf.cells_vals R88.out).2.1
        have p2 : ∀ p : Later w8, p.v.cell? ⟨g8, 2, none⟩ = some (.int .i64 k) := fun p => by rw [← hqk]; exact p.cell (Cnf.cells_vals R88.out).2.2.1
        have p3 : ∀ p : Later w8, p.v.cell? ⟨g8, 3, none⟩ = some (.int .i64 c.sem) := fun p => p.cell (Cnf.cells_vals R88.out).2.2.2.1
        have PB : Hid (∀ p : Later w8, Calls Try.prog 13 #[.pointer (some ⟨b, 0, none⟩)] p.v fun r w' => r = .returned (.int .i64 z1) ∧ p.v = w') := Lib.hid (fun p => ou_busy w b f S' p.v (O8.out.below p.low) z1 HZ1.out)
        have hwr : IntKind.i64.wrap (c.pool + c.sem) = (n : Int) := by rw [hps]; rw [IntKind.wrap_i64]; omega
        have hzn' : decide (n < z1) = false := by simp; omega
        have hkn' : decide (k < k8) = false := by simp; omega
        go_wp2
        refine wp_region_later (by kernel_rfl) (by kernel_rfl) ?_
        repeat (go_big_quiet_step (first | (go_at_call 13; with_reducible exact Calls.later_is (PB.out _))))
        refine wpQuiet_nil ?_
        rintro w9 ⟨p9, h9⟩
        have b9 : Below w8.heap.size w8 w9 := h9 ▸ p9.low
        have O9 := Lib.hid (O8.out.below b9)
        have I9 := Lib.hid (I8.out.below b9)
        have X9 := Lib.hid (kb_below X8.out b9)
        have R9 := Lib.hid (kb_below R88.out b9)
        have W9 := Lib.hid (W8.out.below b9)
        clear h9 p9 b9 p1 p2 p3 PB O8 I8 X8 R88 W8 hwr hzn' hkn'
        go_wp2
        go_loopg [16] k8 (fun g v16 wq => ∃ j : Nat, j + g = k8 ∧ v16 = .int .i64 j ∧ OwU w wq b f S' ∧ Y.Is wq w.heap.size S' ∧ wq.heap[xb]? = some (vobj 31 Y.vals) ∧ wq.heap[g8]? = some (vobj 24 c.vals) ∧ Ints wq w.heap.size (.slice A8 k8 c8) S'.wait)
        case atStart => exact ⟨0, by omega, rfl, O9.out, I9.out, X9.out, R9.out, W9.out⟩
        case round =>
          obtain ⟨j, hgj, rfl, oq, iq, xq, rq, wq'⟩ := hrel
          have GJ := Lib.hid hgj
          have OQ := Lib.hid oq
          have IQ := Lib.hid iq
          have XQ := Lib.hid xq
          have RQ := Lib.hid rq
          have WQ := Lib.hid wq'
          clear hgj oq iq xq rq wq' O9 I9 X9 R9 W9
          by_cases hjk : j < k8
          · have hj1 : (j : Int) < k8 := by omega
            obtain ⟨vb, voff, hA8, q0⟩ := WQ.out.row.1.at_ hjk
            subst hA8
            have hjl : j < S'.wait.length := by rw [HK8.out]; exact hjk
            have hym := getD_mem hjl
            have hyt : S'.wait.getD j 0 ∉ S'.wait.take j := not_taken OQ.out.bul.ok.nw hjl
            have hcc := WQ.out.row.2.2
            have hjc : (j : Int) ≤ (c8 : Int) := by omega
            have hjc' : j ≤ c8 := by omega
            generalize S'.wait.getD j 0 = y at q0 hym hyt
            have hyr : y ∉ S'.run := OQ.out.bul.ok.apart y hym
            have hyw : wf64 y := OQ.out.bul.ok.ww y hym
            have p1 : ∀ p : Later wr, p.v.cell? ⟨vb, voff + j, none⟩ = some (.int .i64 y) := fun p => p.cell q0
            have PR : Hid (∀ p : Later wr, Calls Try.prog 14 #[.pointer (some ⟨b, 0, none⟩), .int .i64 y] p.v fun r w' => r = .returned (.bool false) ∧ Below p.v.heap.size p.v w') := Lib.hid (fun p => ou_runs w b f S' y p.v (OQ.out.below p.low) hyw false (by simp [hyr]))
            have PH : Hid (∀ p : Later wr, Calls Try.prog 15 #[.slice (some ⟨vb, voff, none⟩) j c8, .int .i64 y] p.v fun r w' => r = .returned (.bool false) ∧ p.v = w') := Lib.hid (fun p => by
              have hh := has_any (some ⟨vb, voff, none⟩) j c8 y (S'.wait.take j) p.v ((row_take WQ.out.row.1 WQ.out.row.2.1 hjk).later p.low) (by simp; omega)
              rw [decide_eq_false hyt] at hh
              exact hh.mono (fun _ _ ⟨h, k⟩ => ⟨h, k.symm⟩))
            clear q0 hym hyt hyr hyw hjl
            unfold maxLen at hcc
            go_wp2
            refine wp_region_later (by kernel_rfl) (by kernel_rfl) ?_
            repeat (go_big_quiet_step (first | (go_at_call 14; with_reducible exact Calls.later_of (PR.out _)) | (go_at_call 15; with_reducible exact Calls.later_is (PH.out _))))
            refine wpQuiet_nil ?_
            rintro w10 ⟨p10, h10⟩
            have b10 : Below wr.heap.size wr w10 := h10 ▸ p10.low
            have O10 := Lib.hid (OQ.out.below b10)
            have I10 := Lib.hid (IQ.out.below b10)
            have X10 := Lib.hid (kb_below XQ.out b10)
            have R10 := Lib.hid (kb_below RQ.out b10)
            have W10 := Lib.hid (WQ.out.below b10)
            clear h10 p10 b10 p1 PR PH OQ IQ XQ RQ WQ
            go_wp2
            go_roundg (k8 - (j + 1))
            case measure => have := GJ.out; omega
            case rel => exact ⟨j + 1, by omega, by simp, O10.out, I10.out, X10.out, R10.out, W10.out⟩
          · have hj1 : ¬ (j : Int) < k8 := by omega
            go_wp2
            go_roundg (N - (i + 1))
            case measure => have := G.out; omega
            case rel => exact ⟨i + 1, S', Y, by omega, by simp, OFY.out, OQ.out, IQ.out, XQ.out, RQ.out⟩
    · by_cases hl : i < l2
      · have hi1 : (i : Int) < l2 := by omega
        have hi2 : ¬ (i : Int) < 100 := by omega
        go_wp2
        go_ret
        exact ⟨rfl, OW.out.low⟩
      · have hi1 : ¬ (i : Int) < l2 := by omega
        go_wp2
        go_ret
        exact ⟨rfl, OW.out.low⟩

set_option maxRecDepth 100000 in
theorem lifted (os : Os) (started : os.Started) (H : Type) (enc : TypeId × Value → H) :
    ReturnsInHanded {} Try.checked os 4 .any (Rows.bulkBoundsSpec.pre6 enc Try.prog Try.f4 Rows.bulkBoundsRow.domain false) (Rows.bulkBoundsSpec.post enc Try.prog Try.f4 false true false false) := by
  refine returnsInHanded_of_change_sized (C := Try.checked) own started (by kernel_rfl) Try.func4
    (ChangeSpec.witness6 (enc := enc) (C := Try.checked) false ⟨#[], #[.agg #[.int .u8 0, .int .u8 0], .bool false, .slice none 0 0], []⟩ 8 (by kernel_rfl) (by kernel_rfl) (by kernel_rfl) (by kernel_rfl)) ?_
  intro W base args ds gs before hval0 hW hcnd hsz0 _
  have hval : ∀ (j : Nat) t v, Try.f4.params[j]? = some t → args[j]? = some v → Value.okWide Try.prog W .any base t v := hval0
  have hsz : (DataW.weightsEach Try.prog (Try.f4.params.toList ++ Rows.bulkBoundsSpec.plain.varTypes Try.prog) (ds ++ gs)).all (· ≤ reachBytes) = true := hsz0
  have hW' := hW
  obtain ⟨p, q, hA0, hV, rfl, hfz, hnd⟩ := hW
  have hA : DataW.TrodAll enc Try.prog W 0 (fun _ => true) true Try.f4.params.toList args.toList ds p := hA0
  rw [Try.params4] at hA hval hsz
  have hAk := hA
  obtain ⟨v0, vs0, d0, ds0, p0, q0, hargs, rfl, rfl, h0, r0⟩ := trodAll_cons hA
  obtain ⟨v1, vs1, d1, ds1, p1, q1, rfl, rfl, rfl, h1, r1⟩ := trodAll_cons r0
  obtain ⟨v2, vs2, d2, ds2, p2, q2, rfl, rfl, rfl, h2, r2⟩ := trodAll_cons r1
  obtain ⟨rfl, rfl, rfl⟩ := trodAll_nil r2
  obtain rfl : args = #[v0, v1, v2] := by cases args; simp_all
  obtain ⟨rfl, rfl⟩ := trodVars_none hV
  obtain ⟨c0, rfl, w0⟩ := open_flat (ks := [.int .u8, .int .u8]) 8 (by kernel_rfl) (by kernel_rfl) (hval 0 43 v0 rfl rfl) h0
  obtain ⟨a1, rfl, rfl, rfl⟩ := open_bool Try.underlying4 (hval 1 4 v1 rfl rfl) h1
  obtain ⟨a2, l2, k2, L2, rfl, w2⟩ := open_slice_flat (ks := [.int .i64, .int .i64]) (bytes := 16) 8 Try.underlying25 (by kernel_rfl) (by kernel_rfl) (by decide) (by kernel_rfl) (hval 2 25 v2 rfl rfl) h2 (fun elems rest hd => by subst hd; exact sized_slice hsz (j := 2) (t := 25) (e := 36) rfl rfl Try.underlying25)
  clear hA0 hval0 hsz0
  refine (walk W c0 w0 a1 a2 l2 k2 L2 w2).mono fun e W' ⟨he, bel⟩ => ?_
  subst he
  exact ⟨_, rfl, _, _, _, [], _, [], hW', trodAll_mk1 (shut_bool Try.underlying4 _), trodAll_below laidOut bel _ _ _ _ (by kernel_rfl) hAk, rfl, bel.frame _, fun h => by cases h⟩

theorem over : Rows.bulkBoundsRow.holds Try.pinned (OpenSpec.ofChange Rows.bulkBoundsSpec) :=
  OpenClaim.holds_of_wide 4 Try.f4 rfl rfl rfl rfl rfl rfl rfl ⟨rfl, rfl, rfl, rfl, rfl⟩ rfl rfl rfl rfl rfl (by kernel_rfl) Try.func4 (by kernel_rfl)
    (of_decide_eq_true (by kernel_rfl)) (by unfold Func.isWrapper; first | (rw [if_pos (by decide +kernel)]; kernel_rfl) | (rw [if_neg (by decide +kernel)]; exact ⟨rfl, rfl⟩))
    (fun os started H enc _ => lifted os started H enc)

theorem proved : Rows.BulkBoundsSaid := over
#print axioms proved
end Go.Proofs.Ytnmcnniilihecaa.bulkBounds
