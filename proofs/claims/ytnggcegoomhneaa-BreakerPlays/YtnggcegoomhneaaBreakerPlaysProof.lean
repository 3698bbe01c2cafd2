/- What is proved: BreakerPlays of porpoiselaw09 answers true for every input, and leaves its arguments as they were; conditions: those of the given row alone. -/
import Derived.Test.YtnggcegoomhneaaKit
import Derived.Test.YtnggcegoomhneaaRan09
namespace Go.Proofs.Ytnggcegoomhneaa.breakerPlays
open Go.ChangeShapes Go.WideShapes Go.ChangeAt Go.RowKit Go.Deep
open Go.ChangeMaps (open_string shut_string)
set_option linter.unusedVariables false

theorem own : ownKnob Try.prog.godebug = none := by kernel_rfl
theorem laidOut : laidOutB Try.prog = true := by kernel_rfl



set_option maxRecDepth 100000 in
set_option maxHeartbeats 2000000 in
theorem walk (w : World) (c0 : Array Value) (w0 : Flat [.int .i64, .int .i64, .int .i64, .int .i64, .int .i64, .int .i64, .int .u64, .int .u64, .int .i64, .int .i64, .int .u64, .int .i64, .int .u64, .int .u64, .int .i64, .int .i64] c0.toList) (a1 : Option Addr) (l1 k1 : Nat) (L1 : List (List Value)) (w1 : SliceIn w [.int .i64, .int .u64, .bool] 24 a1 l1 k1 L1) :
    Calls Try.prog 3 #[.agg c0, .slice a1 l1 k1] w fun e w' => e = .returned (.bool true) ∧ Below w.heap.size w w' := by
  obtain ⟨c, rfl, hc⟩ := cnf_flat w0
  obtain ⟨n, hn⟩ : ∃ n, (if 100 < l1 then 100 else l1) = n := ⟨_, rfl⟩
  have hn' : n ≤ l1 ∧ n ≤ 100 ∧ (n < 100 → n = l1) := by rw [← hn]; split <;> omega
  have hml := w1.2.2.2.2.1
  have hlk := w1.2.2.1
  unfold maxLen at hml
  obtain ⟨g, hg⟩ : ∃ g, w.heap.size = g := ⟨_, rfl⟩
  obtain ⟨fs, hu⟩ := undC
  have HU := Lib.hid hu
  obtain ⟨fs', hu'⟩ := undB
  have HU' := Lib.hid hu'
  have HS := Lib.hid w1
  have HC := Lib.hid hc
  clear w0 w1 hc hn hu hu'
  go_enter Try.func3, Try.ntmps3
  go_wp2_with (first
    | (refine wpList_box_agg rfl 24 _ rfl g hg c.vals rfl ?_; intro w1 h1 bl1 t1;
       have LW : Hid (Below w.heap.size w w1) := Lib.hid (by rw [hg]; exact bl1);
       clear bl1)
    | (go_at_call 9; refine (awake_any w1).mono ?_; rintro r wa ⟨rfl, hba⟩; have ha := kb_below h1 hba; have LA := Lib.hid (LW.out.trans (hba.mono LW.out.size)); clear hba h1)
    | (refine wpList_load_agg rfl 24 _ rfl g rfl c.vals ?hy _ HU.out rfl (sizeC _) ?_; (case hy => exact ha))
    | (refine wpList_load_agg rfl 24 _ rfl g rfl c.vals ?hy _ HU.out rfl (sizeC _) ?_; (case hy => exact h2))
    | (go_at_call 10; refine (ob_new w wa c HC.out LA.out).mono ?_; rintro r w2 ⟨b, rfl, hs2, o2, b2⟩;
       have h2 := kb_below ha b2; have O2 := Lib.hid o2; clear o2 b2 ha)
    | (go_at_call 11; refine (rnew_any c w2).mono ?_; rintro r w3 ⟨rfl, b3⟩;
       have O3 := Lib.hid (O2.out.below b3); obtain ⟨xb, hxb⟩ : ∃ xb, w3.heap.size = xb := ⟨_, rfl⟩; clear b3 h2 O2)
    | (refine wpList_alloc_agg rfl 30 rfl xb hxb BK.zero.vals (allocB _) ?_; intro w4 h4 l4 t4;
       have O4 := Lib.hid (O3.out.below (by rw [hxb]; exact l4)); clear l4)
    | (refine wpList_store_agg rfl 30 _ _ rfl xb BK.zero.vals (BK.ofC c).vals rfl rfl ?hz rfl (sizeB _) (BK.ones_vals _) ?_; (case hz => exact h4); intro w5 h5 f5 t5;
       have X5 := Lib.hid h5;
       have hwx : w.heap.size ≤ xb := (by have := O3.out.low.size; omega);
       have hbx : b ≠ xb := (by have := O3.out.brk.lt; omega);
       have O5 := Lib.hid (O4.out.beside f5 hwx hbx);
       clear h4 h5 f5 O3 O4))
  clear t1 hs2 hxb t4 t5 LW LA HC HU
  go_loopg [8, 9] n (fun q v8 v9 wr => ∃ (i : Nat) (N : Int) (x : BK), i + q = n ∧ v9 = .int .i64 i ∧ v8 = .int .u64 N ∧ u64B N ∧ OwB w wr b x ∧ wr.heap[xb]? = some (vobj 30 x.vals))
  case atStart => exact ⟨0, 0, BK.ofC c, by omega, rfl, rfl, ⟨by omega, by omega⟩, O5.out, X5.out⟩
  case round =>
    obtain ⟨i, N, x, hq, rfl, rfl, hN, how, hx⟩ := hrel
    have G := Lib.hid hq
    have HN := Lib.hid hN
    have OW := Lib.hid how
    have HX := Lib.hid hx
    clear hq hN how hx X5 O5
    by_cases hin : i < n
    · have hi1 : (i : Int) < l1 := by omega
      have hi2 : (i : Int) < 100 := by omega
      obtain ⟨blk, off, kd, T, ok, rfl, q0, q1, q2, hT⟩ := deed_at HS.out (i := i) (by omega)
      have HR : Hid (∀ v, v.heap[xb]? = some (vobj 30 x.vals) → Below w.heap.size w v → v.cell? ⟨xb, 0, none⟩ = some (.int .i64 x.state) ∧ v.cell? ⟨xb, 1, none⟩ = some (.int .u64 x.since) ∧ v.cell? ⟨xb, 2, none⟩ = some (.int .u64 x.sleep) ∧ v.cell? ⟨xb, 3, none⟩ = some (.int .i64 x.force) ∧
          v.cell? ⟨blk, off + i * 3, none⟩ = some (.int .i64 kd) ∧ v.cell? ⟨blk, off + i * 3 + 1, none⟩ = some (.int .u64 T) ∧ v.cell? ⟨blk, off + i * 3 + 2, none⟩ = some (.bool ok)) :=
        Lib.hid (fun v hv hb => ⟨vobj_cell hv rfl, vobj_cell hv rfl, vobj_cell hv rfl, vobj_cell hv rfl, cell_later hb q0, cell_later hb q1, cell_later hb q2⟩)
      have p1 := cell_later OW.out.low q1
      have hN' : u64B (addS N T) := addS_bd HN.out.1 hT.1
      have HA := Lib.hid (radd_any N T wr HN.out.1 hT.1 HN.out.2 hT.2)
      generalize addS N T = N' at *
      have HN' := Lib.hid hN'
      have hwl := OW.out.low.size
      have hbl := OW.out.brk.lt
      have hxl := heap_lt HX.out
      have hxn : xb ≠ wr.heap.size := by omega
      have hbn : b ≠ wr.heap.size := by omega
      clear q0 q1 q2 hT hN'
      go_wp2_with (go_at_call 12; refine HA.out.mono ?_; rintro r wx ⟨rfl, rfl⟩)
      clear p1 HA
      go_cut [10, 11] (fun v10 v11 wq => ∃ (yb : Nat) (y : BK), v10 = .pointer (some ⟨yb, 0, none⟩) ∧ v11 = .bool true ∧ w.heap.size ≤ yb ∧ y = x.deed kd N' ok ∧ OwB w wq b y ∧ wq.heap[xb]? = some (vobj 30 x.vals) ∧ wq.heap[yb]? = some (vobj 30 y.vals))
      case first =>
        go_region_held3 (fun v => v.cell? ⟨xb, 0, none⟩ = some (.int .i64 x.state) ∧ v.cell? ⟨xb, 1, none⟩ = some (.int .u64 x.since) ∧ v.cell? ⟨xb, 2, none⟩ = some (.int .u64 x.sleep) ∧ v.cell? ⟨xb, 3, none⟩ = some (.int .i64 x.force) ∧
          v.cell? ⟨blk, off + i * 3, none⟩ = some (.int .i64 kd) ∧ v.cell? ⟨blk, off + i * 3 + 1, none⟩ = some (.int .u64 T) ∧ v.cell? ⟨blk, off + i * 3 + 2, none⟩ = some (.bool ok))
          (first
            | with_reducible exact HR.out _ x5 o5.low
            | with_reducible exact HR.out _ (kb_alloc x5 _) (o5.below (below_alloc _ _)).low
            | (have hy5 := y5; exact HR.out _ (((sets_frm w5 wr.heap.size _ _ _ _).block xb (heap_lt x5) hxn).trans x5) (o5.beside (sets_frm w5 wr.heap.size _ _ _ _) hwl hbn).low)
            | exact HR.out (World.drew _) HX.out (OW.out.ali (drew_ali _)).low
            | exact HR.out (World.drew _) (kb_alloc HX.out _) ((OW.out.below (below_alloc _ _)).ali (drew_ali _)).low)
          (first
            | (go_at_call 13; refine (do_raw w b kd N' T ok x _ (OW.out.ali (drew_ali _)) HN'.out).mono ?_; rintro r w5 ⟨y, rfl, ye, o5, f5⟩; have YE := Lib.hid ye; clear ye; have x5 : w5.heap[xb]? = some (vobj 30 x.vals) := (OW.out.ali (drew_ali _)).brk.kept f5 (j := xb) HX.out (by decide))
            | (go_at_call 13; refine (do_raw w b kd N' T ok x _ ((OW.out.below (below_alloc _ _)).ali (drew_ali _)) HN'.out).mono ?_; rintro r w5 ⟨y, rfl, ye, o5, f5⟩; have YE := Lib.hid ye; clear ye; have x5 : w5.heap[xb]? = some (vobj 30 x.vals) := ((OW.out.below (below_alloc _ _)).ali (drew_ali _)).brk.kept f5 (j := xb) (kb_alloc HX.out _) (by decide); have y5 : w5.heap[wr.heap.size]? = some (vobj 30 BK.zero.vals) := ((OW.out.below (below_alloc _ _)).ali (drew_ali _)).brk.kept f5 (j := wr.heap.size) (heap_alloc_at wr _) (by decide); obtain ⟨ya, yc, yd, yg⟩ := BK.cells_vals y5; have yf0 := vobj_frozen y5 0; have yf1 := vobj_frozen y5 1; have yf2 := vobj_frozen y5 2; have yf3 := vobj_frozen y5 3))
        all_goals (go_wp2; go_meet)
        · exact ⟨w5.heap.size, y, rfl, rfl, o5.low.size, YE.out, o5.below (below_alloc _ _), kb_alloc x5 _, heap_alloc_at _ _⟩
        · exact ⟨wr.heap.size, y, rfl, rfl, hwl, YE.out, o5.beside (sets_frm w5 wr.heap.size _ _ _ _) hwl hbn, ((sets_frm w5 wr.heap.size _ _ _ _).block xb (heap_lt x5) hxn).trans x5, sets_vals y5 y⟩
      case rest =>
        obtain ⟨yb, y, rfl, rfl, hyb, hy, o6, x6, y6⟩ := hcut
        have O6 := Lib.hid o6
        have X6 := Lib.hid x6
        have Y6 := Lib.hid y6
        clear hy o6 x6 y6 HR
        go_wp2_with (first
          | (refine wpList_load_agg rfl 30 _ rfl yb rfl y.vals ?hy _ HU'.out rfl (sizeB _) ?_; (case hy => exact Y6.out))
          | (refine wpList_store_agg rfl 30 _ _ rfl xb x.vals y.vals rfl rfl ?hz rfl (sizeB _) (BK.ones_vals _) ?_; (case hz => exact X6.out); intro w7 h7 f7 t7; have X7 := Lib.hid h7; have O7 := Lib.hid (O6.out.beside f7 hwx hbx); clear h7 f7 t7))
        have p0 : ∀ p : Later w7, p.v.cell? ⟨xb, 0, none⟩ = some (.int .i64 y.state) := fun p => p.cell (BK.cells_vals X7.out).1
        have p1 : ∀ p : Later w7, p.v.cell? ⟨xb, 1, none⟩ = some (.int .u64 y.since) := fun p => p.cell (BK.cells_vals X7.out).2.1
        have PS : Hid (∀ p : Later w7, Calls Try.prog 14 #[.pointer (some ⟨b, 0, none⟩)] p.v fun r w' => r = .returned (.int .i64 y.state) ∧ p.v = w') := Lib.hid (fun p => ob_state w b y p.v (O7.out.below p.low) _ rfl)
        have PT : Hid (∀ p : Later w7, Calls Try.prog 15 #[.pointer (some ⟨b, 0, none⟩)] p.v fun r w' => r = .returned (.int .u64 y.since) ∧ p.v = w') := Lib.hid (fun p => ob_since w b y p.v (O7.out.below p.low) _ rfl)
        simp only [Act.put, List.setIfInBounds_toArray, List.set_cons_zero, List.set_cons_succ]
        refine wp_region_later (by kernel_rfl) (by kernel_rfl) ?_
        repeat (go_big_quiet_step (first | (go_at_call 14; with_reducible exact Calls.later_is (PS.out _)) | (go_at_call 15; with_reducible exact Calls.later_is (PT.out _))))
        refine wpQuiet_nil ?_
        rintro w8 ⟨p8, h8⟩
        have b8 : Below w7.heap.size w7 w8 := h8 ▸ p8.low
        have O8 := Lib.hid (O7.out.below b8)
        have X8 := Lib.hid (kb_below X7.out b8)
        clear h8 p8 b8 p0 p1 PS PT O7 X7
        go_wp2
        go_roundg (n - (i + 1))
        case measure => have := G.out; omega
        case rel => exact ⟨i + 1, N', y, by omega, by simp, rfl, HN'.out, O8.out, X8.out⟩
    · by_cases hl : i < l1
      · have hi1 : (i : Int) < l1 := by omega
        have hi2 : ¬ (i : Int) < 100 := by omega
        go_wp2
        go_ret
        exact ⟨rfl, by have := OW.out.low; rw [hg] at this; exact this⟩
      · have hi1 : ¬ (i : Int) < l1 := by omega
        go_wp2
        go_ret
        exact ⟨rfl, by have := OW.out.low; rw [hg] at this; exact this⟩

set_option maxRecDepth 100000 in
theorem lifted (os : Os) (started : os.Started) (H : Type) (enc : TypeId × Value → H) :
    ReturnsInHanded {} Try.checked os 3 .any (Rows.breakerPlaysSpec.pre6 enc Try.prog Try.f3 Rows.breakerPlaysRow.domain false) (Rows.breakerPlaysSpec.post enc Try.prog Try.f3 false true false false) := by
  refine returnsInHanded_of_change_sized (C := Try.checked) own started (by kernel_rfl) Try.func3
    (ChangeSpec.witness6 (enc := enc) (C := Try.checked) false ⟨#[], #[.agg #[.int .i64 0, .int .i64 0, .int .i64 0, .int .i64 0, .int .i64 0, .int .i64 0, .int .u64 0, .int .u64 0, .int .i64 0, .int .i64 0, .int .u64 0, .int .i64 0, .int .u64 0, .int .u64 0, .int .i64 0, .int .i64 0], .slice none 0 0], []⟩ 8 (by kernel_rfl) (by kernel_rfl) (by kernel_rfl) (by kernel_rfl)) ?_
  intro W base args ds gs before hval0 hW hcnd hsz0 _
  have hval : ∀ (j : Nat) t v, Try.f3.params[j]? = some t → args[j]? = some v → Value.okWide Try.prog W .any base t v := hval0
  have hsz : (DataW.weightsEach Try.prog (Try.f3.params.toList ++ Rows.breakerPlaysSpec.plain.varTypes Try.prog) (ds ++ gs)).all (· ≤ reachBytes) = true := hsz0
  have hW' := hW
  obtain ⟨p, q, hA0, hV, rfl, hfz, hnd⟩ := hW
  have hA : DataW.TrodAll enc Try.prog W 0 (fun _ => true) true Try.f3.params.toList args.toList ds p := hA0
  rw [Try.params3] at hA hval hsz
  have hAk := hA
  obtain ⟨v0, vs0, d0, ds0, p0, q0, hargs, rfl, rfl, h0, r0⟩ := trodAll_cons hA
  obtain ⟨v1, vs1, d1, ds1, p1, q1, rfl, rfl, rfl, h1, r1⟩ := trodAll_cons r0
  obtain ⟨rfl, rfl, rfl⟩ := trodAll_nil r1
  obtain rfl : args = #[v0, v1] := by cases args; simp_all
  obtain ⟨rfl, rfl⟩ := trodVars_none hV
  obtain ⟨c0, rfl, w0⟩ := open_flat (ks := [.int .i64, .int .i64, .int .i64, .int .i64, .int .i64, .int .i64, .int .u64, .int .u64, .int .i64, .int .i64, .int .u64, .int .i64, .int .u64, .int .u64, .int .i64, .int .i64]) 8 (by kernel_rfl) (by kernel_rfl) (hval 0 24 v0 rfl rfl) h0
  obtain ⟨a1, l1, k1, L1, rfl, w1⟩ := open_slice_flat (ks := [.int .i64, .int .u64, .bool]) (bytes := 24) 8 Try.underlying25 (by kernel_rfl) (by kernel_rfl) (by decide) (by kernel_rfl) (hval 1 25 v1 rfl rfl) h1 (fun elems rest hd => by subst hd; exact sized_slice hsz (j := 1) (t := 25) (e := 34) rfl rfl Try.underlying25)
  clear hA0 hval0 hsz0
  refine (walk W c0 w0 a1 l1 k1 L1 w1).mono fun e W' ⟨he, bel⟩ => ?_
  subst he
  exact ⟨_, rfl, _, _, _, [], _, [], hW', trodAll_mk1 (shut_bool Try.underlying4 _), trodAll_below laidOut bel _ _ _ _ (by kernel_rfl) hAk, rfl, bel.frame _, fun h => by cases h⟩

theorem over : Rows.breakerPlaysRow.holds Try.pinned (OpenSpec.ofChange Rows.breakerPlaysSpec) :=
  OpenClaim.holds_of_wide 3 Try.f3 rfl rfl rfl rfl rfl rfl rfl ⟨rfl, rfl, rfl, rfl, rfl⟩ rfl rfl rfl rfl rfl (by kernel_rfl) Try.func3 (by kernel_rfl)
    (of_decide_eq_true (by kernel_rfl)) (by unfold Func.isWrapper; first | (rw [if_pos (by decide +kernel)]; kernel_rfl) | (rw [if_neg (by decide +kernel)]; exact ⟨rfl, rfl⟩))
    (fun os started H enc _ => lifted os started H enc)

theorem proved : Rows.BreakerPlaysSaid := over
#print axioms proved
end Go.Proofs.Ytnggcegoomhneaa.breakerPlays
