/- What is proved: WheelPlays of porpoiselaw03 answers true for every input, and leaves its arguments as they were; conditions: those of the given row alone. -/
import Derived.Test.YtgpebbopggmgbaaKit
import Derived.Test.YtgpebbopggmgbaaDeeds03
namespace Go.Proofs.Ytgpebbopggmgbaa.wheelPlays
open Go.ChangeShapes Go.WideShapes Go.ChangeAt Go.RowKit Go.Deep
open Go.ChangeMaps (open_string shut_string)
set_option linter.unusedVariables false

theorem own : ownKnob Try.prog.godebug = none := by kernel_rfl
theorem laidOut : laidOutB Try.prog = true := by kernel_rfl

theorem open_timer {c : Array Value} (h : Flat [.int .i64, .int .i64] c.toList) : ∃ k i, c = #[.int .i64 k, .int .i64 i] ∧ wf64 k ∧ wf64 i := by
  obtain ⟨x, y, rfl, hx, hy⟩ := h.two
  exact ⟨x, y, rfl, bounds_i64 hx, bounds_i64 hy⟩

set_option maxRecDepth 100000 in
set_option maxHeartbeats 2000000 in
theorem walk (w : World) (a0 : Int) (w0 : (Lit.int .u64 a0).wf = true) (a1 : Option Addr) (l1 k1 : Nat) (L1 : List (List Value)) (w1 : SliceIn w [.int .i64, .int .i64, .int .i64, .int .u64] 32 a1 l1 k1 L1) (c2 : Array Value) (w2 : Flat [.int .i64, .int .i64] c2.toList) :
    Calls Try.prog 3 #[.int .u64 a0, .slice a1 l1 k1, .agg c2] w fun e w' => e = .returned (.bool true) ∧ Below w.heap.size w w' := by
  have b0 := wf_u64 w0
  obtain ⟨tk, ti, rfl, htk, hti⟩ := open_timer w2
  obtain ⟨n, hn⟩ : ∃ n, (if 100 < l1 then 100 else l1) = n := ⟨_, rfl⟩
  have hn' : n ≤ l1 ∧ n ≤ 100 ∧ (n < 100 → n = l1) := by rw [← hn]; split <;> omega
  have hml := w1.2.2.2.2.1
  have hlc := w1.2.2.1
  unfold maxLen at hml
  have W1 := Lib.hid w1
  clear w0 w1 w2 hn
  have kb0 := heap_alloc_at w (tobj tk ti)
  have ow0 := below_alloc w (tobj tk ti)
  go_enter Try.func3, Try.ntmps3
  go_wp2_with fail
  refine (awake_any _).mono ?_
  rintro e wa ⟨rfl, hba⟩
  have kba := kb_below kb0 hba
  have owa := ow0.trans (hba.mono ow0.size)
  have KBA := Lib.hid kba
  have OWA := Lib.hid owa
  clear hba kb0 ow0 kba owa
  go_wp2_with fail
  refine (own_new w a0 wa b0.1 b0.2 OWA.out).mono ?_
  rintro e wb ⟨b, m, rfl, ob, hbb, _, _⟩
  have KBB := Lib.hid (kb_alloc (kb_below KBA.out hbb) (xobj a0 none 0 0))
  have XB := Lib.hid (heap_alloc_at wb (xobj a0 none 0 0))
  have SB : Hid (Sync w (wb.alloc (xobj a0 none 0 0)) b m a0 [] none 0 0) := Lib.hid (Sync.alloc ⟨ob, ⟨rfl, .inl rfl⟩, Nat.le_refl _, by decide⟩ _)
  have hxb : w.heap.size ≤ wb.heap.size := ob.low.size
  have hkx : w.heap.size ≠ wb.heap.size := by have := ob.low.size; have := OWA.out.size; have := heap_lt KBA.out; have := hbb.size; omega
  clear ob hbb
  go_wp2
  generalize wb.alloc (xobj a0 none 0 0) = wc at *
  generalize wb.heap.size = xb at *
  go_loopg [10] n (fun g v10 wr => ∃ (i : Nat) (nw : Int) (L : List Ent) (A : Option Addr) (len cap : Nat), i + g = n ∧ v10 = .int .i64 i ∧ Sync w wr b m nw L A len cap ∧ L.length ≤ i ∧ wr.heap[xb]? = some (xobj nw A len cap) ∧ wr.heap[w.heap.size]? = some (tobj tk ti))
  case atStart => exact ⟨0, a0, [], none, 0, 0, by omega, rfl, SB.out, by simp, XB.out, KBB.out⟩
  case round =>
    obtain ⟨i, nw, L, A, len, cap, hg, rfl, hs, hLi, hxr, hkr⟩ := hrel
    have G := Lib.hid hg
    have SY := Lib.hid hs
    have XR := Lib.hid hxr
    have KR := Lib.hid hkr
    clear hg hs hxr hkr SB XB KBB KBA
    by_cases hin : i < n
    · have hi1 : (i : Int) < l1 := by omega
      have hi2 : (i : Int) < 100 := by omega
      obtain ⟨blk, off, kd, dk, di, T, rfl, q0, q1, q2, q3, hdk, hdi, hT0, hT1⟩ := deed_at W1.out (i := i) (by omega)
      have hdo := do_any w b m nw kd dk di T L A len cap
      have hq : ∀ v, Below w.heap.size w v → v.cell? ⟨blk, off + i * 4, none⟩ = some (.int .i64 kd) ∧ v.cell? ⟨blk, off + i * 4 + 1, none⟩ = some (.int .i64 dk) ∧ v.cell? ⟨blk, off + i * 4 + 2, none⟩ = some (.int .i64 di) ∧ v.cell? ⟨blk, off + i * 4 + 3, none⟩ = some (.int .u64 T) :=
        fun v hb => ⟨cell_later hb q0, cell_later hb q1, cell_later hb q2, cell_later hb q3⟩
      have hhd : ∀ v, v.heap[xb]? = some (xobj nw A len cap) → Below w.heap.size w v → v.cell? ⟨xb, 0, none⟩ = some (.int .u64 nw) ∧ v.cell? ⟨xb, 1, none⟩ = some (.slice A len cap) ∧ v.cell? ⟨blk, off + i * 4, none⟩ = some (.int .i64 kd) ∧ v.cell? ⟨blk, off + i * 4 + 1, none⟩ = some (.int .i64 dk) ∧ v.cell? ⟨blk, off + i * 4 + 2, none⟩ = some (.int .i64 di) ∧ v.cell? ⟨blk, off + i * 4 + 3, none⟩ = some (.int .u64 T) :=
        fun v hx hb => held_deed hx (hq v hb).1 (hq v hb).2.1 (hq v hb).2.2.1 (hq v hb).2.2.2
      have hxn : xb ≠ wr.heap.size := by have := heap_lt XR.out; omega
      have hkn : w.heap.size ≠ wr.heap.size := by have := heap_lt KR.out; omega
      have hwl := SY.out.own.low.size
      have HD := Lib.hid hhd
      have DO := Lib.hid hdo
      clear q0 q1 q2 q3 hq hdo hhd
      go_wp2
      go_cut [11, 12] (fun v11 v12 wq => ∃ (yb : Nat) (nw' : Int) (L' : List Ent) (A' : Option Addr) (len' cap' : Nat), v11 = .pointer (some ⟨yb, 0, none⟩) ∧ v12 = .bool true ∧ Sync w wq b m nw' L' A' len' cap' ∧ L'.length ≤ i + 1 ∧
        wq.heap[xb]? = some (xobj nw A len cap) ∧ wq.heap[yb]? = some (xobj nw' A' len' cap') ∧ wq.heap[w.heap.size]? = some (tobj tk ti))
      case first =>
        go_region_held3 (fun v => v.cell? ⟨xb, 0, none⟩ = some (.int .u64 nw) ∧ v.cell? ⟨xb, 1, none⟩ = some (.slice A len cap) ∧ v.cell? ⟨blk, off + i * 4, none⟩ = some (.int .i64 kd) ∧ v.cell? ⟨blk, off + i * 4 + 1, none⟩ = some (.int .i64 dk) ∧ v.cell? ⟨blk, off + i * 4 + 2, none⟩ = some (.int .i64 di) ∧ v.cell? ⟨blk, off + i * 4 + 3, none⟩ = some (.int .u64 T))
          (first
            | exact HD.out (World.drew _) XR.out SY.out.drew.own.low
            | exact HD.out (World.drew _) (kb_alloc XR.out _) (SY.out.alloc _).drew.own.low
            | exact HD.out _ x5 s5.own.low
            | exact HD.out _ (kb_alloc x5 _) (s5.alloc _).own.low
            | exact HD.out _ ((set_keep hxn _ _ _ _).trans x5) (s5.set y5 (by decide) (by decide) (by decide) hwl _ _ _ _).own.low)
          (first
            | (go_at_call 11; refine (DO.out _ SY.out.drew (by omega) hdk hdi hT0 hT1).mono ?_; rintro r w5 ⟨nw', A', len', cap', rfl, L', s5, mv5, f5⟩; have x5 := Whl.other SY.out.drew.own.whl f5 (j := xb) XR.out (by decide) (by decide); have k5 := Whl.other SY.out.drew.own.whl f5 (j := w.heap.size) KR.out (by decide) (by decide))
            | (go_at_call 11; refine (DO.out _ (SY.out.alloc _).drew (by omega) hdk hdi hT0 hT1).mono ?_; rintro r w5 ⟨nw', A', len', cap', rfl, L', s5, mv5, f5⟩; have x5 := Whl.other (SY.out.alloc _).drew.own.whl f5 (j := xb) (kb_alloc XR.out _) (by decide) (by decide); have k5 := Whl.other (SY.out.alloc _).drew.own.whl f5 (j := w.heap.size) (kb_alloc KR.out _) (by decide) (by decide); have y5 := Whl.other (SY.out.alloc _).drew.own.whl f5 (j := wr.heap.size) (heap_alloc_at wr (xobj 0 none 0 0)) (by decide) (by decide); obtain ⟨ya, yc⟩ := xcells y5; have yf0 := frozen_of y5 0; have yf1 := frozen_of y5 1))
        all_goals (go_wp2; go_meet)
        all_goals first
          | exact ⟨w5.heap.size, nw', L', A', len', cap', rfl, rfl, s5.alloc _, Nat.le_trans mv5.2.1 (by omega), kb_alloc x5 _, heap_alloc_at _ _, kb_alloc k5 _⟩
          | exact ⟨wr.heap.size, nw', L', A', len', cap', rfl, rfl, s5.set y5 (by decide) (by decide) (by decide) hwl _ _ _ _, Nat.le_trans mv5.2.1 (by omega), (set_keep hxn _ _ _ _).trans x5, x_set y5, (set_keep hkn _ _ _ _).trans k5⟩
      case rest =>
        obtain ⟨yb, nw', L', A', len', cap', rfl, rfl, s6, hl6, x6, y6, k6⟩ := hcut
        obtain ⟨xa, xc⟩ := xcells x6
        obtain ⟨ya, yc⟩ := xcells y6
        have xf0 := frozen_of x6 0
        have xf1 := frozen_of x6 1
        have s7 := s6.set x6 (by decide) (by decide) (by decide) hxb 0 1 (.int .u64 nw') (.slice A' len' cap')
        have x7 := x_set (n' := nw') (A' := A') (len' := len') (cap' := cap') x6
        have k7 := (set_keep hkx 0 1 (.int .u64 nw') (.slice A' len' cap')).trans k6
        obtain ⟨kc0, kc1⟩ := cells2 k7
        have hdu := due_s b m nw' tk ti L' _ s7.own.whl htk hti
        have S7 := Lib.hid s7
        have X7 := Lib.hid x7
        have K7 := Lib.hid k7
        clear s6 x6 y6 k6 s7 x7 k7 HD DO
        go_wp2_with fail
        refine hdu.mono ?_
        clear hdu
        generalize (wc.setCell ⟨xb, 0, none⟩ (.int .u64 nw')).setCell ⟨xb, 1, none⟩ (.slice A' len' cap') = w7 at *
        rintro r w8 ⟨dd, dt, rfl, hds, hb8⟩
        have S8 := Lib.hid (S7.out.below hb8)
        have X8 := Lib.hid (kb_below X7.out hb8)
        have K8 := Lib.hid (kb_below K7.out hb8)
        obtain ⟨xa, xc⟩ := xcells X8.out
        obtain ⟨kc0, kc1⟩ := cells2 K8.out
        have hrl := S8.out.row.1
        have hdu := rdue_s A' len' cap' nw' tk ti L' w8 S8.out.row (by omega) S8.out.own.whl.wf htk hti
        have HDS := Lib.hid hds
        clear hds hb8
        go_wp2_with fail
        refine hdu.mono ?_
        clear hdu
        rintro r w9 ⟨dd', dt', rfl, hds', hb9⟩
        obtain ⟨rfl, rfl⟩ := HDS.out.one S8.out.own.whl.keys hds'
        have S9 := Lib.hid (S8.out.below hb9)
        have X9 := Lib.hid (kb_below X8.out hb9)
        have K9 := Lib.hid (kb_below K8.out hb9)
        obtain ⟨xa, xc⟩ := xcells X9.out
        have hsa := same_any w b m nw' L' A' len' cap' w9 S9.out (by omega)
        clear hds' hb9 kc0 kc1
        go_wp2_with fail
        refine hsa.mono ?_
        clear hsa
        rintro r w10 ⟨rfl, hb10⟩
        have S10 := Lib.hid (S9.out.below hb10)
        have X10 := Lib.hid (kb_below X9.out hb10)
        have K10 := Lib.hid (kb_below K9.out hb10)
        clear hb10 xa xc
        go_wp2
        go_roundg (n - (i + 1))
        case measure => have := G.out; omega
        case rel => exact ⟨i + 1, nw', L', A', len', cap', by omega, by simp, S10.out, hl6, X10.out, K10.out⟩
    · by_cases hil : (i : Int) < l1
      · have h100 : ¬ (i : Int) < 100 := by have := G.out; omega
        go_wp2
        go_ret
        exact ⟨rfl, SY.out.own.low⟩
      · go_wp2
        go_ret
        exact ⟨rfl, SY.out.own.low⟩

set_option maxRecDepth 100000 in
theorem lifted (os : Os) (started : os.Started) (H : Type) (enc : TypeId × Value → H) :
    ReturnsInHanded {} Try.checked os 3 .any (Rows.wheelPlaysSpec.pre6 enc Try.prog Try.f3 Rows.wheelPlaysRow.domain false) (Rows.wheelPlaysSpec.post enc Try.prog Try.f3 false true false false) := by
  refine returnsInHanded_of_change_sized (C := Try.checked) own started (by kernel_rfl) Try.func3
    (ChangeSpec.witness6 (enc := enc) (C := Try.checked) false ⟨#[], #[.int .u64 0, .slice none 0 0, .agg #[.int .i64 0, .int .i64 0]], []⟩ 8 (by kernel_rfl) (by kernel_rfl) (by kernel_rfl) (by kernel_rfl)) ?_
  intro W base args ds gs before hval0 hW hcnd hsz0 _
  have hval : ∀ (j : Nat) t v, Try.f3.params[j]? = some t → args[j]? = some v → Value.okWide Try.prog W .any base t v := hval0
  have hsz : (DataW.weightsEach Try.prog (Try.f3.params.toList ++ Rows.wheelPlaysSpec.plain.varTypes Try.prog) (ds ++ gs)).all (· ≤ reachBytes) = true := hsz0
  have hW' := hW
  obtain ⟨p, q, hA0, hV, rfl, hfz, hnd⟩ := hW
  have hA : DataW.TrodAll enc Try.prog W 0 (fun _ => true) true Try.f3.params.toList args.toList ds p := hA0
  rw [Try.params3] at hA hval hsz
  have hAk := hA
  obtain ⟨v0, vs0, d0, ds0, p0, q0, hargs, rfl, rfl, h0, r0⟩ := trodAll_cons hA
  obtain ⟨v1, vs1, d1, ds1, p1, q1, rfl, rfl, rfl, h1, r1⟩ := trodAll_cons r0
  obtain ⟨v2, vs2, d2, ds2, p2, q2, rfl, rfl, rfl, h2, r2⟩ := trodAll_cons r1
  obtain ⟨rfl, rfl, rfl⟩ := trodAll_nil r2
  obtain rfl : args = #[v0, v1, v2] := by cases args; simp_all
  obtain ⟨rfl, rfl⟩ := trodVars_none hV
  obtain ⟨a0, rfl, rfl, rfl, w0⟩ := open_int Try.underlying22 (hval 0 22 v0 rfl rfl) h0
  obtain ⟨a1, l1, k1, L1, rfl, w1⟩ := open_slice_flat (ks := [.int .i64, .int .i64, .int .i64, .int .u64]) (bytes := 32) 8 Try.underlying23 (by kernel_rfl) (by kernel_rfl) (by decide) (by kernel_rfl) (hval 1 23 v1 rfl rfl) h1 (fun elems rest hd => by subst hd; exact sized_slice hsz (j := 1) (t := 23) (e := 35) rfl rfl Try.underlying23)
  obtain ⟨c2, rfl, w2⟩ := open_flat (ks := [.int .i64, .int .i64]) 8 (by kernel_rfl) (by kernel_rfl) (hval 2 25 v2 rfl rfl) h2
  clear hA0 hval0 hsz0
  refine (walk W a0 w0 a1 l1 k1 L1 w1 c2 w2).mono fun e W' ⟨he, bel⟩ => ?_
  subst he
  exact ⟨_, rfl, _, _, _, [], _, [], hW', trodAll_mk1 (shut_bool Try.underlying4 _), trodAll_below laidOut bel _ _ _ _ (by kernel_rfl) hAk, rfl, bel.frame _, fun h => by cases h⟩

theorem over : Rows.wheelPlaysRow.holds Try.pinned (OpenSpec.ofChange Rows.wheelPlaysSpec) :=
  OpenClaim.holds_of_wide 3 Try.f3 rfl rfl rfl rfl rfl rfl rfl ⟨rfl, rfl, rfl, rfl, rfl⟩ rfl rfl rfl rfl rfl (by kernel_rfl) Try.func3 (by kernel_rfl)
    (of_decide_eq_true (by kernel_rfl)) (by unfold Func.isWrapper; first | (rw [if_pos (by decide +kernel)]; kernel_rfl) | (rw [if_neg (by decide +kernel)]; exact ⟨rfl, rfl⟩))
    (fun os started H enc _ => lifted os started H enc)

theorem proved : Rows.WheelPlaysSaid := over
#print axioms proved
end Go.Proofs.Ytgpebbopggmgbaa.wheelPlays
