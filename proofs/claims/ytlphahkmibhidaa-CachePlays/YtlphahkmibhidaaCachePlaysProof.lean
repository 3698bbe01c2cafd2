/- What is proved: CachePlays of porpoiselaw12 answers true for every input, and leaves its arguments as they were; conditions: those of the given row alone. -/
import Derived.Test.YtlphahkmibhidaaKit
import Derived.Test.YtlphahkmibhidaaRan12
import Derived.Test.YtlphahkmibhidaaAwk12
namespace Go.Proofs.Ytlphahkmibhidaa.cachePlays
open Go.ChangeShapes Go.WideShapes Go.ChangeAt Go.RowKit Go.Deep
open Go.ChangeMaps (open_string shut_string)
set_option linter.unusedVariables false

theorem own : ownKnob Try.prog.godebug = none := by kernel_rfl
theorem laidOut : laidOutB Try.prog = true := by kernel_rfl



set_option maxRecDepth 100000 in
set_option maxHeartbeats 4000000 in
theorem walk (w : World) (a0 : Option Addr) (l0 k0 : Nat) (L0 : List (List Value)) (w0 : SliceIn w [.int .i64, .int .i64, .int .i64, .int .i64, .int .i64, .int .i64, .int .i64, .int .i64] 64 a0 l0 k0 L0) :
    Calls Try.prog 3 #[.slice a0 l0 k0] w fun e w' => e = .returned (.bool true) ∧ Below w.heap.size w w' := by
  obtain ⟨V, hr, hV, hml⟩ := dds_in w0
  unfold maxLen at hml
  clear w0
  obtain ⟨N, hN⟩ : ∃ N, (if 100 < l0 then 100 else l0) = N := ⟨_, rfl⟩
  have hN' : N ≤ l0 ∧ N ≤ 100 ∧ (N < 100 → N = l0) := by rw [← hN]; split <;> omega
  obtain ⟨fs, hu⟩ := undX
  have HU := Lib.hid hu
  have HR := Lib.hid hr
  have HF := Lib.hid hV
  clear hr hV hu hN
  go_enter Try.func3, Try.ntmps3
  go_wp2_with (first
    | (go_at_call 9; refine (awake_any w).mono ?_; rintro r wa ⟨rfl, ba⟩; have BA := Lib.hid ba; clear ba)
    | (go_at_call 10; refine (oc_new w wa BA.out).mono ?_; rintro r w1 ⟨b, rfl, o1, b1⟩; have O1 := Lib.hid o1; obtain ⟨xb, hxb⟩ : ∃ xb, w1.heap.size = xb := ⟨_, rfl⟩; have XW : Hid (w.heap.size ≤ xb) := Lib.hid (by have := b1.size; have := BA.out.size; omega); clear o1 b1)
    | (refine wpList_build_agg rfl 29 #[] rfl RC.zero.vals (buildX _) ?_)
    | (refine wpList_alloc_agg rfl 29 rfl xb hxb RC.zero.vals (allocX _) ?_; intro w2 h2 l2 t2; have O2 := Lib.hid (O1.out.below (show Below w1.heap.size w1 w2 by rw [hxb]; exact l2)); have H2 := Lib.hid h2; clear h2 l2 t2)
    | (refine wpList_store_agg rfl 29 _ _ rfl xb RC.zero.vals RC.zero.vals rfl rfl ?hz rfl (sizeX _) (RC.ones_vals _) ?_; (case hz => exact H2.out); intro w3 h3 f3 t3; have O3 := Lib.hid (O2.out.beside H2.out (by decide) f3 XW.out); have H3 := Lib.hid h3; clear h3 f3 t3))
  clear hxb
  have hwx : w.heap.size ≤ xb := XW.out
  go_loopg [6] N (fun q v6 wr => ∃ (i : Nat) (X : RC), i + q = N ∧ v6 = .int .i64 i ∧ Sync w wr b xb (CA.run (V.take i)) X)
  case atStart => exact ⟨0, RC.zero, by omega, rfl, ⟨_, O3.out⟩, RC.zero_is _ _, H3.out⟩
  case round =>
    obtain ⟨i, X, hq, rfl, hsy⟩ := hrel
    obtain ⟨⟨F, how⟩, hi, hx⟩ := hsy
    have G := Lib.hid hq
    have OW := Lib.hid how
    have IX := Lib.hid hi
    have HX := Lib.hid hx
    obtain ⟨S, hS⟩ : ∃ S, CA.run (V.take i) = S := ⟨_, rfl⟩
    rw [hS] at OW IX
    have SZ : Hid (S.size ≤ 1000) := Lib.hid (by have := CA.run_size (V.take i); rw [hS, List.length_take] at this; omega)
    have HS := Lib.hid hS
    clear hq how hx hi O3 H3 hS
    by_cases hin : i < N
    · have hi1 : (i : Int) < l0 := by omega
      have hi2 : (i : Int) < 100 := by omega
      obtain ⟨blk, off, d, rfl, hd, hrg⟩ := HR.out.dd (i := i) (by omega)
      have FD : Hid d.Fits := Lib.hid (HF.out d (List.mem_of_getElem? hd))
      obtain ⟨q0, q1, q2, q3, q4, q5, q6, q7⟩ := dd_cells hrg
      have HRX : Hid (∀ v, v.heap[xb]? = some (vobj 29 X.vals) → Below w.heap.size w v → (v.cell? ⟨xb, 0, none⟩ = some (.slice X.A X.n X.c) ∧ v.cell? ⟨xb, 1, none⟩ = some (.slice X.B X.m X.d)) ∧
          v.cell? ⟨blk, off + i * 8, none⟩ = some (.int .i64 d.kind) ∧ v.cell? ⟨blk, off + i * 8 + 1, none⟩ = some (.int .i64 d.id) ∧ v.cell? ⟨blk, off + i * 8 + 2, none⟩ = some (.int .i64 d.k.a) ∧ v.cell? ⟨blk, off + i * 8 + 3, none⟩ = some (.int .i64 d.k.b) ∧ v.cell? ⟨blk, off + i * 8 + 4, none⟩ = some (.int .i64 d.k.c) ∧ v.cell? ⟨blk, off + i * 8 + 5, none⟩ = some (.int .i64 d.t.a) ∧ v.cell? ⟨blk, off + i * 8 + 6, none⟩ = some (.int .i64 d.t.b) ∧ v.cell? ⟨blk, off + i * 8 + 7, none⟩ = some (.int .i64 d.t.c)) :=
        Lib.hid (fun v hv hb => ⟨RC.cells_vals hv, cell_later hb q0, cell_later hb q1, cell_later hb q2, cell_later hb q3, cell_later hb q4, cell_later hb q5, cell_later hb q6, cell_later hb q7⟩)
      have NX : Hid (CA.run (V.take (i + 1)) = S.deed d) := Lib.hid (by rw [CA.run_next hd, HS.out])
      have hwl := OW.out.low.size
      have hxl := heap_lt HX.out
      have hxn : xb ≠ wr.heap.size := by omega
      clear q0 q1 q2 q3 q4 q5 q6 q7 hd hrg
      go_wp2
      go_cut [7, 8] (fun vy vs wq => ∃ (yb : Nat) (Y : RC), vy = .pointer (some ⟨yb, 0, none⟩) ∧ vs = .bool true ∧ w.heap.size ≤ yb ∧ (∃ F, OwC w wq F b (S.deed d)) ∧ Y.Is wq w.heap.size (S.deed d) ∧ wq.heap[xb]? = some (vobj 29 X.vals) ∧ wq.heap[yb]? = some (vobj 29 Y.vals))
      case first =>
        go_region_held3 (fun v => (v.cell? ⟨xb, 0, none⟩ = some (.slice X.A X.n X.c) ∧ v.cell? ⟨xb, 1, none⟩ = some (.slice X.B X.m X.d)) ∧
          v.cell? ⟨blk, off + i * 8, none⟩ = some (.int .i64 d.kind) ∧ v.cell? ⟨blk, off + i * 8 + 1, none⟩ = some (.int .i64 d.id) ∧ v.cell? ⟨blk, off + i * 8 + 2, none⟩ = some (.int .i64 d.k.a) ∧ v.cell? ⟨blk, off + i * 8 + 3, none⟩ = some (.int .i64 d.k.b) ∧ v.cell? ⟨blk, off + i * 8 + 4, none⟩ = some (.int .i64 d.k.c) ∧ v.cell? ⟨blk, off + i * 8 + 5, none⟩ = some (.int .i64 d.t.a) ∧ v.cell? ⟨blk, off + i * 8 + 6, none⟩ = some (.int .i64 d.t.b) ∧ v.cell? ⟨blk, off + i * 8 + 7, none⟩ = some (.int .i64 d.t.c))
          (first
            | with_reducible exact HRX.out _ x5 o5.low
            | with_reducible exact HRX.out _ (kb_alloc x5 _) (o5.below (below_alloc _ _)).low
            | (have hy5 := y5; exact HRX.out _ (((sets2_frm w5 wr.heap.size _ _).block xb (heap_lt x5) hxn).trans x5) (o5.beside y5 (by decide) (sets2_frm w5 wr.heap.size _ _) hwl).low)
            | exact HRX.out (World.drew _) HX.out (OW.out.ali (drew_ali _)).low
            | exact HRX.out (World.drew _) (kb_alloc HX.out _) ((OW.out.below (below_alloc _ _)).ali (drew_ali _)).low)
          (first
            | (go_at_call 11; refine (do_raw w F b S X d _ (OW.out.ali (drew_ali _)) (IX.out.ali (drew_ali _)) FD.out SZ.out).mono ?_; rintro r w5 ⟨Y, rfl, ⟨⟨F', o5, _⟩, i5, f5⟩⟩; have I5 := Lib.hid i5; have x5 : w5.heap[xb]? = some (vobj 29 X.vals) := foot_kept f5 (j := xb) HX.out (by decide); clear i5 f5)
            | (go_at_call 11; refine (do_raw w F b S X d _ ((OW.out.below (below_alloc _ _)).ali (drew_ali _)) ((IX.out.below (below_alloc _ _)).ali (drew_ali _)) FD.out SZ.out).mono ?_; rintro r w5 ⟨Y, rfl, ⟨⟨F', o5, _⟩, i5, f5⟩⟩; have I5 := Lib.hid i5; have x5 : w5.heap[xb]? = some (vobj 29 X.vals) := foot_kept f5 (j := xb) (kb_alloc HX.out _) (by decide); have y5 : w5.heap[wr.heap.size]? = some (vobj 29 RC.zero.vals) := foot_kept f5 (j := wr.heap.size) (heap_alloc_at wr _) (by decide); obtain ⟨ya, yc⟩ := RC.cells_vals y5; have yf0 := vobj_frozen y5 0; have yf1 := vobj_frozen y5 1; clear i5 f5))
        all_goals (go_wp2; go_meet)
        · exact ⟨w5.heap.size, Y, rfl, rfl, o5.low.size, ⟨_, o5.below (below_alloc _ _)⟩, I5.out.below (below_alloc _ _), kb_alloc x5 _, heap_alloc_at _ _⟩
        · exact ⟨wr.heap.size, Y, rfl, rfl, hwl, ⟨_, o5.beside y5 (by decide) (sets2_frm w5 wr.heap.size _ _) hwl⟩, I5.out.beside y5 (by decide) (sets2_frm w5 wr.heap.size _ _), ((sets2_frm w5 wr.heap.size _ _).block xb (heap_lt x5) hxn).trans x5, sets2 y5 Y⟩
      case rest =>
        obtain ⟨yb, Y, rfl, rfl, hyb, ⟨F', o6⟩, i6, x6, y6⟩ := hcut
        have O6 := Lib.hid o6
        have I6 := Lib.hid i6
        have X6 := Lib.hid x6
        have Y6 := Lib.hid y6
        clear o6 i6 x6 y6 HRX
        go_wp2_with (first
          | (refine wpList_load_agg rfl 29 _ rfl yb rfl Y.vals ?hy _ HU.out rfl (sizeX _) ?_; (case hy => exact Y6.out))
          | (refine wpList_store_agg rfl 29 _ _ rfl xb X.vals Y.vals rfl rfl ?hz rfl (sizeX _) (RC.ones_vals _) ?_; (case hz => exact X6.out); intro w7 h7 f7 t7; have X7 := Lib.hid h7; have O7 := Lib.hid (O6.out.beside X6.out (by decide) f7 hwx); have I7 := Lib.hid (I6.out.beside X6.out (by decide) f7); clear h7 f7 t7))
        obtain ⟨n0, hn0⟩ : ∃ n0, Y.n = n0 := ⟨_, rfl⟩
        have hlen : (S.deed d).E.length = n0 := by rw [← hn0]; exact I7.out.rowE.1
        have HLN := Lib.hid hlen
        have hlc : ∀ p : Later w7, Calls Try.prog 12 #[.pointer (some ⟨b, 0, none⟩)] p.v fun r w' => r = .returned (.int .i64 n0) ∧ p.v = w' := fun p => oc_len w F' b (S.deed d) p.v (O7.out.below p.low) n0 HLN.out
        have HLC := Lib.hid hlc
        have hc0 : ∀ p : Later w7, p.v.cell? ⟨xb, 0, none⟩ = some (.slice Y.A n0 Y.c) := fun p => by rw [← hn0]; exact p.cell (RC.cells_vals X7.out).1
        have hne : ((n0 : Int) == (n0 : Int)) = true := by simp
        clear hn0 hlen hlc
        go_frame
        refine wp_region_later (by kernel_rfl) (by kernel_rfl) ?_
        repeat (go_big_quiet_step (first | (go_at_call 12; with_reducible exact Calls.later_is (HLC.out _))))
        refine wpQuiet_nil ?_
        rintro w9 ⟨⟨_, b9⟩, rfl⟩
        have B9 := Lib.hid b9
        clear b9 hc0
        go_wp2
        go_roundg (N - (i + 1))
        case measure => have := G.out; omega
        case rel => exact ⟨i + 1, Y, by omega, by simp, ⟨_, by rw [NX.out]; exact O7.out.below B9.out⟩, by rw [NX.out]; exact I7.out.below B9.out, kb_below X7.out B9.out⟩
    · have LOW := Lib.hid OW.out.low
      clear HX IX HS SZ
      by_cases hl : i < l0
      · have hi1 : (i : Int) < l0 := by omega
        have hi2 : ¬ (i : Int) < 100 := by omega
        go_wp2
        go_ret
        exact ⟨rfl, LOW.out⟩
      · have hi1 : ¬ (i : Int) < l0 := by omega
        go_wp2
        go_ret
        exact ⟨rfl, LOW.out⟩

set_option maxRecDepth 100000 in
theorem lifted (os : Os) (started : os.Started) (H : Type) (enc : TypeId × Value → H) :
    ReturnsInHanded {} Try.checked os 3 .any (Rows.cachePlaysSpec.pre6 enc Try.prog Try.f3 Rows.cachePlaysRow.domain false) (Rows.cachePlaysSpec.post enc Try.prog Try.f3 false true false false) := by
  refine returnsInHanded_of_change_sized (C := Try.checked) own started (by kernel_rfl) Try.func3
    (ChangeSpec.witness6 (enc := enc) (C := Try.checked) false ⟨#[], #[.slice none 0 0], []⟩ 8 (by kernel_rfl) (by kernel_rfl) (by kernel_rfl) (by kernel_rfl)) ?_
  intro W base args ds gs before hval0 hW hcnd hsz0 _
  have hval : ∀ (j : Nat) t v, Try.f3.params[j]? = some t → args[j]? = some v → Value.okWide Try.prog W .any base t v := hval0
  have hsz : (DataW.weightsEach Try.prog (Try.f3.params.toList ++ Rows.cachePlaysSpec.plain.varTypes Try.prog) (ds ++ gs)).all (· ≤ reachBytes) = true := hsz0
  have hW' := hW
  obtain ⟨p, q, hA0, hV, rfl, hfz, hnd⟩ := hW
  have hA : DataW.TrodAll enc Try.prog W 0 (fun _ => true) true Try.f3.params.toList args.toList ds p := hA0
  rw [Try.params3] at hA hval hsz
  have hAk := hA
  obtain ⟨v0, vs0, d0, ds0, p0, q0, hargs, rfl, rfl, h0, r0⟩ := trodAll_cons hA
  obtain ⟨rfl, rfl, rfl⟩ := trodAll_nil r0
  obtain rfl : args = #[v0] := by cases args; simp_all
  obtain ⟨rfl, rfl⟩ := trodVars_none hV
  obtain ⟨a0, l0, k0, L0, rfl, w0⟩ := open_slice_flat (ks := [.int .i64, .int .i64, .int .i64, .int .i64, .int .i64, .int .i64, .int .i64, .int .i64]) (bytes := 64) 8 Try.underlying22 (by kernel_rfl) (by kernel_rfl) (by decide) (by kernel_rfl) (hval 0 22 v0 rfl rfl) h0 (fun elems rest hd => by subst hd; exact sized_slice hsz (j := 0) (t := 22) (e := 37) rfl rfl Try.underlying22)
  clear hA0 hval0 hsz0
  refine (walk W a0 l0 k0 L0 w0).mono fun e W' ⟨he, bel⟩ => ?_
  subst he
  exact ⟨_, rfl, _, _, _, [], _, [], hW', trodAll_mk1 (shut_bool Try.underlying4 _), trodAll_below laidOut bel _ _ _ _ (by kernel_rfl) hAk, rfl, bel.frame _, fun h => by cases h⟩

theorem over : Rows.cachePlaysRow.holds Try.pinned (OpenSpec.ofChange Rows.cachePlaysSpec) :=
  OpenClaim.holds_of_wide 3 Try.f3 rfl rfl rfl rfl rfl rfl rfl ⟨rfl, rfl, rfl, rfl, rfl⟩ rfl rfl rfl rfl rfl (by kernel_rfl) Try.func3 (by kernel_rfl)
    (of_decide_eq_true (by kernel_rfl)) (by unfold Func.isWrapper; first | (rw [if_pos (by decide +kernel)]; kernel_rfl) | (rw [if_neg (by decide +kernel)]; exact ⟨rfl, rfl⟩))
    (fun os started H enc _ => lifted os started H enc)

theorem proved : Rows.CachePlaysSaid := over
#print axioms proved
end Go.Proofs.Ytlphahkmibhidaa.cachePlays
