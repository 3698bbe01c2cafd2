/- What is proved: BulkPlays of porpoiselaw10 answers true for every input, and leaves its arguments as they were; conditions: those of the given row alone. -/
import Derived.Test.YtnmcnniilihecaaKit
import Derived.Test.YtnmcnniilihecaaRan10
namespace Go.Proofs.Ytnmcnniilihecaa.bulkPlays
open Go.ChangeShapes Go.WideShapes Go.ChangeAt Go.RowKit Go.Deep
open Go.ChangeMaps (open_string shut_string)
set_option linter.unusedVariables false

theorem own : ownKnob Try.prog.godebug = none := by kernel_rfl
theorem laidOut : laidOutB Try.prog = true := by kernel_rfl



set_option maxRecDepth 100000 in
set_option maxHeartbeats 4000000 in
theorem walk (w : World) (c0 : Array Value) (w0 : Flat [.int .i64, .int .i64, .int .i64, .int .i64, .int .i64, .int .i64, .int .u64, .int .u64, .int .i64, .int .i64, .int .u64, .int .i64, .int .u64, .int .u64, .int .i64, .int .i64] c0.toList) (a1 : Option Addr) (l1 k1 : Nat) (L1 : List (List Value)) (w1 : SliceIn w [.int .i64, .int .i64] 16 a1 l1 k1 L1) (a2 : Int) (w2 : (Lit.int .i64 a2).wf = true) :
    Calls Try.prog 3 #[.agg c0, .slice a1 l1 k1, .int .i64 a2] w fun e w' => e = .returned (.bool true) ∧ Below w.heap.size w w' := by
  obtain ⟨c, rfl, hc⟩ := cnf_flat w0
  have hid2 : wf64 a2 := bounds_i64 w2
  have hml := w1.2.2.2.2.1
  have hlk := w1.2.2.1
  unfold maxLen at hml
  obtain ⟨N, hN⟩ : ∃ N, (if 100 < l1 then 100 else l1) = N := ⟨_, rfl⟩
  have hN' : N ≤ l1 ∧ N ≤ 100 ∧ (N < 100 → N = l1) := by rw [← hN]; split <;> omega
  obtain ⟨fs, hu⟩ := undC
  have HU := Lib.hid hu
  obtain ⟨fs', hu'⟩ := undR
  have HU' := Lib.hid hu'
  obtain ⟨g, hg⟩ : ∃ g, w.heap.size = g := ⟨_, rfl⟩
  have HS := Lib.hid w1
  have HID := Lib.hid hid2
  clear w0 w1 w2 hu hu' hN hid2 hc
  rcases c.bulk_or with ⟨n, k, hc⟩ | hc
  rotate_left
  · have HC := Lib.hid hc
    clear hc
    go_enter Try.func3, Try.ntmps3
    go_wp2_with (first
      | (refine wpList_box_agg rfl 24 _ rfl g hg c.vals rfl ?_; intro w1 h1 bl1 t1;
         have LW : Hid (Below w.heap.size w w1) := Lib.hid (by rw [hg]; exact bl1);
         have H1 := Lib.hid h1; clear h1 bl1 t1)
      | (go_at_call 9; refine (awake_any w1).mono ?_; rintro r wa ⟨rfl, ba⟩; have H2 := Lib.hid (kb_below H1.out ba); have LA := Lib.hid (LW.out.trans (ba.mono LW.out.size)); clear ba H1)
      | (refine wpList_load_agg rfl 24 _ rfl g rfl c.vals ?hy _ HU.out rfl (sizeC _) ?_; (case hy => exact H2.out))
      | (refine wpList_load_agg rfl 24 _ rfl g rfl c.vals ?hy _ HU.out rfl (sizeC _) ?_; (case hy => exact H3.out))
      | (go_at_call 10; refine (new_nobulk c wa HC.out).mono ?_; rintro r w2 ⟨rfl, b2⟩;
         have H3 := Lib.hid (kb_below H2.out b2); have L2 := Lib.hid (LA.out.trans (b2.mono LA.out.size)); clear b2 H2)
      | (go_at_call 11; refine (rnew_nobulk c w2 HC.out).mono ?_; rintro r w3 ⟨rfl, b3⟩;
         have L3 := Lib.hid (L2.out.trans (b3.mono L2.out.size)); obtain ⟨xb, hxb⟩ : ∃ xb, w3.heap.size = xb := ⟨_, rfl⟩; clear b3 H3)
      | (refine wpList_alloc_agg rfl 31 rfl xb hxb RK.zero.vals (allocR _) ?_; intro w4 h4 l4 t4;
         have L4 := Lib.hid (L3.out.trans (l4.mono (by have := L3.out.size; omega))); have H4 := Lib.hid h4; clear l4 h4 t4)
      | (refine wpList_store_agg rfl 31 _ _ rfl xb RK.zero.vals (RK.ofC c).vals rfl rfl ?hz rfl (sizeR _) (RK.ones_vals _) ?_; (case hz => exact H4.out); intro w5 h5 f5 t5;
         have L5 := Lib.hid (L4.out.trans (f5.below L4.out.size (fun j hj e => by have e' : j = xb := e; have := L3.out.size; omega)));
         clear h5 f5 t5 H4))
    go_ret
    exact ⟨rfl, by have := L5.out; first | exact this | (rw [hg] at this; exact this)⟩
  have HC := Lib.hid hc
  clear hc
  go_enter Try.func3, Try.ntmps3
  go_wp2_with (first
    | (refine wpList_box_agg rfl 24 _ rfl g hg c.vals rfl ?_; intro w1 h1 bl1 t1;
       have LW : Hid (Below w.heap.size w w1) := Lib.hid (by rw [hg]; exact bl1);
       have H1 := Lib.hid h1; clear h1 bl1 t1)
    | (go_at_call 9; refine (awake_any w1).mono ?_; rintro r wa ⟨rfl, ba⟩; have H2 := Lib.hid (kb_below H1.out ba); have LA := Lib.hid (LW.out.trans (ba.mono LW.out.size)); clear ba H1)
    | (refine wpList_load_agg rfl 24 _ rfl g rfl c.vals ?hy _ HU.out rfl (sizeC _) ?_; (case hy => exact H2.out))
    | (refine wpList_load_agg rfl 24 _ rfl g rfl c.vals ?hy _ HU.out rfl (sizeC _) ?_; (case hy => exact H3.out))
    | (go_at_call 10; refine (ou_new w wa c n k HC.out LA.out).mono ?_; rintro r w2 ⟨b, rfl, f, o2, b2⟩;
       have H3 := Lib.hid (kb_below H2.out b2); have O2 := Lib.hid o2; clear o2 b2 H2)
    | (go_at_call 11; refine (rnew_bulk c n k w2 HC.out).mono ?_; rintro r w3 ⟨rfl, b3⟩;
       have O3 := Lib.hid (O2.out.below b3); obtain ⟨xb, hxb⟩ : ∃ xb, w3.heap.size = xb := ⟨_, rfl⟩; clear b3 H3 O2)
    | (refine wpList_alloc_agg rfl 31 rfl xb hxb RK.zero.vals (allocR _) ?_; intro w4 h4 l4 t4;
       have O4 := Lib.hid (O3.out.below (by rw [hxb]; exact l4)); have H4 := Lib.hid h4; clear l4 h4)
    | (refine wpList_store_agg rfl 31 _ _ rfl xb RK.zero.vals (RK.ofC c).vals rfl rfl ?hz rfl (sizeR _) (RK.ones_vals _) ?_; (case hz => exact H4.out); intro w5 h5 f5 t5;
       have X5 := Lib.hid h5;
       have hwx : w.heap.size ≤ xb := (by have := O3.out.low.size; omega);
       have O5 := Lib.hid (O4.out.beside H4.out (by decide) f5 hwx);
       clear h5 f5 O3 O4 H4))
  clear hxb t4 t5 LW LA HU
  go_loopg [11] N (fun q v11 wr => ∃ (i : Nat) (S : BU) (X : RK), i + q = N ∧ v11 = .int .i64 i ∧ S.Of n k ((L1.map idOf).take 100) ∧ OwU w wr b f S ∧ X.Is wr w.heap.size S ∧ wr.heap[xb]? = some (vobj 31 X.vals))
  case atStart => exact ⟨0, BU.none_ n k, RK.ofC c, by omega, rfl, BU.Of.none_ n k _, O5.out, RK.ofC_is HC.out _ _, X5.out⟩
  case round =>
    obtain ⟨i, S, X, hq, rfl, hof, how, hi, hx⟩ := hrel
    have G := Lib.hid hq
    have OF := Lib.hid hof
    have OW := Lib.hid how
    have IX := Lib.hid hi
    have HX := Lib.hid hx
    clear hq hof how hx hi X5 O5
    by_cases hin : i < N
    · have hi1 : (i : Int) < l1 := by omega
      have hi2 : (i : Int) < 100 := by omega
      obtain ⟨blk, off, kd, z, rfl, q0, q1, hz, hid⟩ := deed_at HS.out (i := i) (by omega)
      have hzT := mem_ids hid (by omega)
      have HR : Hid (∀ v, v.heap[xb]? = some (vobj 31 X.vals) → Below w.heap.size w v → v.cell? ⟨xb, 0, none⟩ = some (.int .i64 X.most) ∧ v.cell? ⟨xb, 1, none⟩ = some (.int .i64 X.que) ∧ v.cell? ⟨xb, 2, none⟩ = some (.slice X.A X.n X.c) ∧ v.cell? ⟨xb, 3, none⟩ = some (.slice X.B X.m X.d) ∧
          v.cell? ⟨blk, off + i * 2, none⟩ = some (.int .i64 kd) ∧ v.cell? ⟨blk, off + i * 2 + 1, none⟩ = some (.int .i64 z)) :=
        Lib.hid (fun v hv hb => ⟨vobj_cell hv rfl, vobj_cell hv rfl, vobj_cell hv rfl, vobj_cell hv rfl, cell_later hb q0, cell_later hb q1⟩)
      have HZ := Lib.hid hz
      have HT := Lib.hid hzT
      have hwl := OW.out.low.size
      have hxl := heap_lt HX.out
      have hxn : xb ≠ wr.heap.size := by omega
      clear q0 q1 hz hzT hid
      go_wp2
      go_cut [12, 13] (fun vy vs wq => ∃ (yb : Nat) (Y : RK), vy = .pointer (some ⟨yb, 0, none⟩) ∧ vs = .bool true ∧ w.heap.size ≤ yb ∧ OwU w wq b f (S.deed kd z) ∧ Y.Is wq w.heap.size (S.deed kd z) ∧ wq.heap[xb]? = some (vobj 31 X.vals) ∧ wq.heap[yb]? = some (vobj 31 Y.vals))
      case first =>
        go_region_held3 (fun v => v.cell? ⟨xb, 0, none⟩ = some (.int .i64 X.most) ∧ v.cell? ⟨xb, 1, none⟩ = some (.int .i64 X.que) ∧ v.cell? ⟨xb, 2, none⟩ = some (.slice X.A X.n X.c) ∧ v.cell? ⟨xb, 3, none⟩ = some (.slice X.B X.m X.d) ∧
          v.cell? ⟨blk, off + i * 2, none⟩ = some (.int .i64 kd) ∧ v.cell? ⟨blk, off + i * 2 + 1, none⟩ = some (.int .i64 z))
          (first
            | with_reducible exact HR.out _ x5 o5.low
            | with_reducible exact HR.out _ (kb_alloc x5 _) (o5.below (below_alloc _ _)).low
            | (have hy5 := y5; exact HR.out _ (((sets_frm w5 wr.heap.size _ _ _ _).block xb (heap_lt x5) hxn).trans x5) (o5.beside y5 (by decide) (sets_frm w5 wr.heap.size _ _ _ _) hwl).low)
            | exact HR.out (World.drew _) HX.out (OW.out.ali (drew_ali _)).low
            | exact HR.out (World.drew _) (kb_alloc HX.out _) ((OW.out.below (below_alloc _ _)).ali (drew_ali _)).low)
          (first
            | (go_at_call 12; refine (do_raw w b f S X kd z _ (OW.out.ali (drew_ali _)) (IX.out.ali (drew_ali _)) HZ.out).mono ?_; rintro r w5 ⟨Y, rfl, i5, o5, f5⟩; have I5 := Lib.hid i5; have x5 : w5.heap[xb]? = some (vobj 31 X.vals) := (OW.out.ali (drew_ali _)).bul.kept f5 (j := xb) HX.out (by decide))
            | (go_at_call 12; refine (do_raw w b f S X kd z _ ((OW.out.below (below_alloc _ _)).ali (drew_ali _)) ((IX.out.below (below_alloc _ _)).ali (drew_ali _)) HZ.out).mono ?_; rintro r w5 ⟨Y, rfl, i5, o5, f5⟩; have I5 := Lib.hid i5; have x5 : w5.heap[xb]? = some (vobj 31 X.vals) := ((OW.out.below (below_alloc _ _)).ali (drew_ali _)).bul.kept f5 (j := xb) (kb_alloc HX.out _) (by decide); have y5 : w5.heap[wr.heap.size]? = some (vobj 31 RK.zero.vals) := ((OW.out.below (below_alloc _ _)).ali (drew_ali _)).bul.kept f5 (j := wr.heap.size) (heap_alloc_at wr _) (by decide); obtain ⟨ya, yc, yd, yg⟩ := RK.cells_vals y5; have yf0 := vobj_frozen y5 0; have yf1 := vobj_frozen y5 1; have yf2 := vobj_frozen y5 2; have yf3 := vobj_frozen y5 3))
        all_goals (go_wp2; go_meet)
        · exact ⟨w5.heap.size, Y, rfl, rfl, o5.low.size, o5.below (below_alloc _ _), I5.out.below (below_alloc _ _), kb_alloc x5 _, heap_alloc_at _ _⟩
        · exact ⟨wr.heap.size, Y, rfl, rfl, hwl, o5.beside y5 (by decide) (sets_frm w5 wr.heap.size _ _ _ _) hwl, I5.out.beside y5 (by decide) (sets_frm w5 wr.heap.size _ _ _ _), ((sets_frm w5 wr.heap.size _ _ _ _).block xb (heap_lt x5) hxn).trans x5, sets_rk y5 Y⟩
      case rest =>
        obtain ⟨yb, Y, rfl, rfl, hyb, o6, i6, x6, y6⟩ := hcut
        have OFY : Hid ((S.deed kd z).Of n k ((L1.map idOf).take 100)) := Lib.hid (OF.out.deed kd HT.out)
        have O6 := Lib.hid o6
        have I6 := Lib.hid i6
        have X6 := Lib.hid x6
        have Y6 := Lib.hid y6
        clear o6 i6 x6 y6 HR
        go_wp2_with (first
          | (refine wpList_load_agg rfl 31 _ rfl yb rfl Y.vals ?hy _ HU'.out rfl (sizeR _) ?_; (case hy => exact Y6.out))
          | (refine wpList_store_agg rfl 31 _ _ rfl xb X.vals Y.vals rfl rfl ?hz rfl (sizeR _) (RK.ones_vals _) ?_; (case hz => exact X6.out); intro w7 h7 f7 t7; have X7 := Lib.hid h7; have O7 := Lib.hid (O6.out.beside X6.out (by decide) f7 hwx); have I7 := Lib.hid (I6.out.beside X6.out (by decide) f7); clear h7 f7 t7 X6 O6 I6))
        obtain ⟨S', hS'⟩ : ∃ S', S.deed kd z = S' := ⟨_, rfl⟩
        rw [hS'] at O7 I7 OFY
        clear hS'
        obtain ⟨t, ht⟩ : ∃ t, decide (a2 ∈ S'.run) = t := ⟨_, rfl⟩
        have HT' := Lib.hid ht
        have CE : Hid (∀ v : World, v.heap[xb]? = some (vobj 31 Y.vals) → v.cell? ⟨xb, 2, none⟩ = some (.slice Y.A Y.n Y.c) ∧ v.cell? ⟨xb, 3, none⟩ = some (.slice Y.B Y.m Y.d)) := Lib.hid (fun v hv => (RK.cells_vals hv).2.2)
        have hbu : ∀ v, OwU w v b f S' → Y.Is v w.heap.size S' → Calls Try.prog 13 #[.pointer (some ⟨b, 0, none⟩)] v fun r w' => r = .returned (.int .i64 Y.n) ∧ v = w' := fun v hv hi => ou_busy w b f S' v hv Y.n hi.rowA.2
        have hru : ∀ v, OwU w v b f S' → Calls Try.prog 14 #[.pointer (some ⟨b, 0, none⟩), .int .i64 a2] v fun r w' => r = .returned (.bool t) ∧ Below v.heap.size v w' := fun v hv => ou_runs w b f S' a2 v hv HID.out t HT'.out
        have hha : ∀ v, Y.Is v w.heap.size S' → Calls Try.prog 15 #[.slice Y.A Y.n Y.c, .int .i64 a2] v fun r w' => r = .returned (.bool t) ∧ v = w' := fun v hv => by
          have hh := has_any Y.A Y.n Y.c a2 S'.run v hv.rowA.1 hv.rowA.2
          rw [HT'.out] at hh
          exact hh.mono (fun _ _ ⟨h, k⟩ => ⟨h, k.symm⟩)
        have hwa : ∀ v, OwU w v b f S' → Calls Try.prog 17 #[.pointer (some ⟨b, 0, none⟩)] v fun r w' => ∃ A k c, r = .returned (.slice A k c) ∧ Ints w' w.heap.size (.slice A k c) S'.wait ∧ Below v.heap.size v w' := fun v hv => ou_waiting w b f S' v hv S'.wait rfl
        have hsa : ∀ (A : Option Addr) (k c : Nat) (v : World), Ints v w.heap.size (.slice A k c) S'.wait → Y.Is v w.heap.size S' → Calls Try.prog 16 #[.slice A k c, .slice Y.B Y.m Y.d] v fun r w' => r = .returned (.bool true) ∧ Ali v w' := fun A k c v hv hy => by
          have hs := same_any A Y.B k c Y.m Y.d S'.wait S'.wait v hv.row.1 hv.row.2.1 hy.rowB.1 hy.rowB.2
          rwa [show decide (S'.wait = S'.wait) = true by simp] at hs
        have HBU := Lib.hid hbu
        have HRU := Lib.hid hru
        have HHA := Lib.hid hha
        have HWA := Lib.hid hwa
        have HSA := Lib.hid hsa
        have S0 : Hid (OwU w w7.drew b f S') := Lib.hid (O7.out.ali (drew_ali _))
        have I0 : Hid (Y.Is w7.drew w.heap.size S') := Lib.hid (I7.out.ali (drew_ali _))
        have X0 : Hid (w7.drew.heap[xb]? = some (vobj 31 Y.vals)) := Lib.hid X7.out
        clear ht hbu hru hha hwa hsa O7 I7 X7 Y6
        go_wp2
        go_region_held3 (fun v => v.cell? ⟨xb, 2, none⟩ = some (.slice Y.A Y.n Y.c) ∧ v.cell? ⟨xb, 3, none⟩ = some (.slice Y.B Y.m Y.d))
          (first
            | with_reducible exact CE.out _ X0.out
            | with_reducible exact CE.out _ x1
            | with_reducible exact CE.out _ x2
            | with_reducible exact CE.out _ x3)
          (first
            | (go_at_call 13; refine (HBU.out _ S0.out I0.out).mono ?_; rintro r wU ⟨rfl, rfl⟩)
            | (go_at_call 14; refine (HRU.out _ S0.out).mono ?_; rintro r wA ⟨rfl, bA⟩; have s1 := S0.out.below bA; have i1 := I0.out.below bA; have x1 := kb_below X0.out bA)
            | (go_at_call 15; refine (HHA.out _ i1).mono ?_; rintro r wB ⟨rfl, rfl⟩)
            | (go_at_call 17; refine (HWA.out _ s1).mono ?_; rintro r wC ⟨A8, k8, c8, rfl, v8, bC⟩; have s2 := s1.below bC; have i2 := i1.below bC; have x2 := kb_below x1 bC)
            | (go_at_call 16; refine (HSA.out A8 k8 c8 _ v8 i2).mono ?_; rintro r wD ⟨rfl, aD⟩; have s3 := s2.ali aD; have i3 := i2.ali aD; have x3 := kb_below x2 (ali_below aD)))
        have S3 := Lib.hid s3
        have I3 := Lib.hid i3
        have X3 := Lib.hid x3
        clear s1 s2 s3 i1 i2 i3 x1 x2 x3 bA bC aD v8 HBU HRU HHA HWA HSA S0 I0 X0 CE
        go_wp2
        go_roundg (N - (i + 1))
        case measure => have := G.out; omega
        case rel => exact ⟨i + 1, S', Y, by omega, by simp, OFY.out, S3.out, I3.out, X3.out⟩
    · by_cases hl : i < l1
      · have hi1 : (i : Int) < l1 := by omega
        have hi2 : ¬ (i : Int) < 100 := by omega
        go_wp2
        go_ret
        exact ⟨rfl, by have := OW.out.low; first | exact this | (rw [hg] at this; exact this)⟩
      · have hi1 : ¬ (i : Int) < l1 := by omega
        go_wp2
        go_ret
        exact ⟨rfl, by have := OW.out.low; first | exact this | (rw [hg] at this; exact this)⟩

set_option maxRecDepth 100000 in
theorem lifted (os : Os) (started : os.Started) (H : Type) (enc : TypeId × Value → H) :
    ReturnsInHanded {} Try.checked os 3 .any (Rows.bulkPlaysSpec.pre6 enc Try.prog Try.f3 Rows.bulkPlaysRow.domain false) (Rows.bulkPlaysSpec.post enc Try.prog Try.f3 false true false false) := by
  refine returnsInHanded_of_change_sized (C := Try.checked) own started (by kernel_rfl) Try.func3
    (ChangeSpec.witness6 (enc := enc) (C := Try.checked) false ⟨#[], #[.agg #[.int .i64 0, .int .i64 0, .int .i64 0, .int .i64 0, .int .i64 0, .int .i64 0, .int .u64 0, .int .u64 0, .int .i64 0, .int .i64 0, .int .u64 0, .int .i64 0, .int .u64 0, .int .u64 0, .int .i64 0, .int .i64 0], .slice none 0 0, .int .i64 0], []⟩ 8 (by kernel_rfl) (by kernel_rfl) (by kernel_rfl) (by kernel_rfl)) ?_
  intro W base args ds gs before hval0 hW hcnd hsz0 _
  have hval : ∀ (j : Nat) t v, Try.f3.params[j]? = some t → args[j]? = some v → Value.okWide Try.prog W .any base t v := hval0
  have hsz : (DataW.weightsEach Try.prog (Try.f3.params.toList ++ Rows.bulkPlaysSpec.plain.varTypes Try.prog) (ds ++ gs)).all (· ≤ reachBytes) = true := hsz0
  have hW' := hW
  obtain ⟨p, q, hA0, hV, rfl, hfz, hnd⟩ := hW
  have hA : DataW.TrodAll enc Try.prog W 0 (fun _ => true) true Try.f3.params.toList args.toList ds p := hA0
  rw [Try.params3] at hA hval hsz
  have hAk := hA
  obtain ⟨v0, vs0, d0, ds0, p0, q0, hargs, rfl, rfl, h0, r0⟩ := trodAll_cons hA
  obtain ⟨v1, vs1, d1, ds1, p1, q1, rfl, rfl, rfl, h1, r1⟩ := trodAll_cons r0
  obtain ⟨v2, vs2, d2, ds2, p2, q2, rfl, rfl, rfl, h2, r2⟩ := trodAll_cons r1
  obtain ⟨rfl, rfl, rfl⟩ := trodAll_nil r2
  obtain rfl : args = #[v0, v1, v2] := by cases args; simp_all
  obtain ⟨rfl, rfl⟩ := trodVars_none hV
  obtain ⟨c0, rfl, w0⟩ := open_flat (ks := [.int .i64, .int .i64, .int .i64, .int .i64, .int .i64, .int .i64, .int .u64, .int .u64, .int .i64, .int .i64, .int .u64, .int .i64, .int .u64, .int .u64, .int .i64, .int .i64]) 8 (by kernel_rfl) (by kernel_rfl) (hval 0 24 v0 rfl rfl) h0
  obtain ⟨a1, l1, k1, L1, rfl, w1⟩ := open_slice_flat (ks := [.int .i64, .int .i64]) (bytes := 16) 8 Try.underlying25 (by kernel_rfl) (by kernel_rfl) (by decide) (by kernel_rfl) (hval 1 25 v1 rfl rfl) h1 (fun elems rest hd => by subst hd; exact sized_slice hsz (j := 1) (t := 25) (e := 36) rfl rfl Try.underlying25)
  obtain ⟨a2, rfl, rfl, rfl, w2⟩ := open_int Try.underlying3 (hval 2 3 v2 rfl rfl) h2
  clear hA0 hval0 hsz0
  refine (walk W c0 w0 a1 l1 k1 L1 w1 a2 w2).mono fun e W' ⟨he, bel⟩ => ?_
  subst he
  exact ⟨_, rfl, _, _, _, [], _, [], hW', trodAll_mk1 (shut_bool Try.underlying4 _), trodAll_below laidOut bel _ _ _ _ (by kernel_rfl) hAk, rfl, bel.frame _, fun h => by cases h⟩

theorem over : Rows.bulkPlaysRow.holds Try.pinned (OpenSpec.ofChange Rows.bulkPlaysSpec) :=
  OpenClaim.holds_of_wide 3 Try.f3 rfl rfl rfl rfl rfl rfl rfl ⟨rfl, rfl, rfl, rfl, rfl⟩ rfl rfl rfl rfl rfl (by kernel_rfl) Try.func3 (by kernel_rfl)
    (of_decide_eq_true (by kernel_rfl)) (by unfold Func.isWrapper; first | (rw [if_pos (by decide +kernel)]; kernel_rfl) | (rw [if_neg (by decide +kernel)]; exact ⟨rfl, rfl⟩))
    (fun os started H enc _ => lifted os started H enc)

theorem proved : Rows.BulkPlaysSaid := over
#print axioms proved
end Go.Proofs.Ytnmcnniilihecaa.bulkPlays
