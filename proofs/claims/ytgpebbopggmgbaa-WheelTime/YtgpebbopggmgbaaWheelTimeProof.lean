/- What is proved: WheelTime of porpoiselaw03 answers true for every input, and leaves its arguments as they were; conditions: those of the given row alone. -/
import Derived.Test.YtgpebbopggmgbaaKit
import Derived.Test.YtgpebbopggmgbaaDeeds03
namespace Go.Proofs.Ytgpebbopggmgbaa.wheelTime
open Go.ChangeShapes Go.WideShapes Go.ChangeAt Go.RowKit Go.Deep
open Go.ChangeMaps (open_string shut_string)
set_option linter.unusedVariables false

theorem own : ownKnob Try.prog.godebug = none := by kernel_rfl
theorem laidOut : laidOutB Try.prog = true := by kernel_rfl

theorem next_s (b m : Nat) (now : Int) (L : List Ent) (w : World) (h : Whl w b m now L) :
    Calls Try.prog 19 #[.pointer (some ⟨b, 0, none⟩)] w fun r w' => ∃ d t, r = .returned (.tuple #[.int .u64 d, .bool t]) ∧ (t = false ∨ t = true ∧ now ≤ d) ∧ Below w.heap.size w w' := by
  refine (next_whl b m now L w h).mono ?_
  rintro r w' ⟨rfl, ha⟩
  cases L with
  | nil => exact ⟨0, false, rfl, .inl rfl, below_ali (Below.refl _ _) ha⟩
  | cons e l => exact ⟨e.d, true, rfl, .inr ⟨rfl, (h.due e (by simp)).1⟩, below_ali (Below.refl _ _) ha⟩
theorem came_due {kd nw nw' : Int} {L L' : List Ent} (h : Moved kd nw L nw' L') (hk : kd = 3) {k i d d' : Int} (h1 : DueS L k i d true) (h2 : DueS L' k i d' false) : nw' = d := by
  rcases h1 with ⟨e, he, hek, hei, rfl, _⟩ | ⟨_, _, h⟩
  · rcases h2 with ⟨_, _, _, _, _, h⟩ | ⟨hno, _⟩
    · cases h
    · rcases h.2.2 hk with rfl | ⟨x, rfl, rfl⟩
      · exact absurd ⟨hek, hei⟩ (hno e he)
      · rcases List.mem_cons.1 he with rfl | he
        · rfl
        · exact absurd ⟨hek, hei⟩ (hno e he)
  · cases h

set_option maxRecDepth 100000 in
set_option maxHeartbeats 8000000 in
theorem walk (w : World) (a0 : Int) (w0 : (Lit.int .u64 a0).wf = true) (a1 : Option Addr) (l1 k1 : Nat) (L1 : List (List Value)) (w1 : SliceIn w [.int .i64, .int .i64, .int .i64, .int .u64] 32 a1 l1 k1 L1) :
    Calls Try.prog 6 #[.int .u64 a0, .slice a1 l1 k1] w fun e w' => e = .returned (.bool true) ∧ Below w.heap.size w w' := by
  have b0 := wf_u64 w0
  obtain ⟨n, hn⟩ : ∃ n, (if 100 < l1 then 100 else l1) = n := ⟨_, rfl⟩
  have hn' : n ≤ l1 ∧ n ≤ 100 ∧ (n < 100 → n = l1) := by rw [← hn]; split <;> omega
  have hml := w1.2.2.2.2.1
  have hlc := w1.2.2.1
  unfold maxLen at hml
  have W1 := Lib.hid w1
  clear w0 w1 hn
  go_enter Try.func6, Try.ntmps6
  go_wp2_with fail
  refine (awake_any _).mono ?_
  rintro e wa ⟨rfl, hba⟩
  have OWA := Lib.hid hba
  clear hba
  go_wp2_with fail
  refine (own_new w a0 wa b0.1 b0.2 OWA.out).mono ?_
  rintro e wb ⟨b, m, rfl, ob, hbb, _, _⟩
  have XB := Lib.hid (heap_alloc_at wb (xobj a0 none 0 0))
  have SB : Hid (Sync w (wb.alloc (xobj a0 none 0 0)) b m a0 [] none 0 0) := Lib.hid (Sync.alloc ⟨ob, ⟨rfl, .inl rfl⟩, Nat.le_refl _, by decide⟩ _)
  have hxb : w.heap.size ≤ wb.heap.size := ob.low.size
  clear ob hbb
  go_wp2
  generalize wb.alloc (xobj a0 none 0 0) = wc at *
  generalize wb.heap.size = xb at *
  go_loopg [8] n (fun g v8 wr => ∃ (i : Nat) (nw : Int) (L : List Ent) (A : Option Addr) (len cap : Nat), i + g = n ∧ v8 = .int .i64 i ∧ Sync w wr b m nw L A len cap ∧ L.length ≤ i ∧ wr.heap[xb]? = some (xobj nw A len cap))
  case atStart => exact ⟨0, a0, [], none, 0, 0, by omega, rfl, SB.out, by simp, XB.out⟩
  case round =>
    obtain ⟨i, nw, L, A, len, cap, hg, rfl, hs0, hLi, hxr0⟩ := hrel
    have G := Lib.hid hg
    have SY0 := Lib.hid hs0
    have XR0 := Lib.hid hxr0
    clear hg hs0 hxr0 SB XB
    by_cases hin : i < n
    · have hi1 : (i : Int) < l1 := by omega
      have hi2 : (i : Int) < 100 := by omega
      obtain ⟨blk, off, kd, dk, di, T, rfl, q0, q1, q2, q3, hdk, hdi, hT0, hT1⟩ := deed_at W1.out (i := i) (by omega)
      have hdo := do_any w b m nw kd dk di T L A len cap
      have hq : ∀ v, Below w.heap.size w v → v.cell? ⟨blk, off + i * 4, none⟩ = some (.int .i64 kd) ∧ v.cell? ⟨blk, off + i * 4 + 1, none⟩ = some (.int .i64 dk) ∧ v.cell? ⟨blk, off + i * 4 + 2, none⟩ = some (.int .i64 di) ∧ v.cell? ⟨blk, off + i * 4 + 3, none⟩ = some (.int .u64 T) :=
        fun v hb => ⟨cell_later hb q0, cell_later hb q1, cell_later hb q2, cell_later hb q3⟩
      have hhd : ∀ v, v.heap[xb]? = some (xobj nw A len cap) → Below w.heap.size w v → v.cell? ⟨xb, 0, none⟩ = some (.int .u64 nw) ∧ v.cell? ⟨xb, 1, none⟩ = some (.slice A len cap) ∧ v.cell? ⟨blk, off + i * 4, none⟩ = some (.int .i64 kd) ∧ v.cell? ⟨blk, off + i * 4 + 1, none⟩ = some (.int .i64 dk) ∧ v.cell? ⟨blk, off + i * 4 + 2, none⟩ = some (.int .i64 di) ∧ v.cell? ⟨blk, off + i * 4 + 3, none⟩ = some (.int .u64 T) :=
        fun v hx hb => held_deed hx (hq v hb).1 (hq v hb).2.1 (hq v hb).2.2.1 (hq v hb).2.2.2
      have HQ := Lib.hid hq
      have HD := Lib.hid hhd
      have DO := Lib.hid hdo
      clear q0 q1 q2 q3 hdo hhd hq
      obtain ⟨_, q1, q2, _⟩ := HQ.out _ SY0.out.own.low
      have hno := now_whl b m nw L _ SY0.out.own.whl
      have hdu := due_s b m nw dk di L _ SY0.out.own.whl hdk hdi
      go_wp2_with (first | (go_at_call 17; refine hno.mono ?_; rintro e _ ⟨rfl, rfl⟩) | fail)
      refine hdu.mono ?_
      clear hdu hno q1 q2
      rintro r w1 ⟨dd, dt, rfl, hds, hb1⟩
      have SY1 := Lib.hid (SY0.out.below hb1)
      have XR1 := Lib.hid (kb_below XR0.out hb1)
      have HDS := Lib.hid hds
      have hne := next_s b m nw L _ SY1.out.own.whl
      clear hds hb1
      go_wp2_with fail
      refine hne.mono ?_
      clear hne
      rintro r w2 ⟨nx, isn, rfl, hnx, hb2⟩
      have SY := Lib.hid (SY1.out.below hb2)
      have XR := Lib.hid (kb_below XR1.out hb2)
      have HNX := Lib.hid hnx
      clear hnx hb2
      have hxn : xb ≠ w2.heap.size := by have := heap_lt XR.out; omega
      have hwl := SY.out.own.low.size
      go_wp2
      go_cut [14, 15] (fun v14 v15 wq => ∃ (yb : Nat) (nw' : Int) (L' : List Ent) (A' : Option Addr) (len' cap' : Nat), v14 = .pointer (some ⟨yb, 0, none⟩) ∧ v15 = .bool true ∧ Sync w wq b m nw' L' A' len' cap' ∧ Moved kd nw L nw' L' ∧
        wq.heap[xb]? = some (xobj nw A len cap) ∧ wq.heap[yb]? = some (xobj nw' A' len' cap'))
      case first =>
        go_region_held3 (fun v => v.cell? ⟨xb, 0, none⟩ = some (.int .u64 nw) ∧ v.cell? ⟨xb, 1, none⟩ = some (.slice A len cap) ∧ v.cell? ⟨blk, off + i * 4, none⟩ = some (.int .i64 kd) ∧ v.cell? ⟨blk, off + i * 4 + 1, none⟩ = some (.int .i64 dk) ∧ v.cell? ⟨blk, off + i * 4 + 2, none⟩ = some (.int .i64 di) ∧ v.cell? ⟨blk, off + i * 4 + 3, none⟩ = some (.int .u64 T))
          (first
            | exact HD.out (World.drew _) XR.out SY.out.drew.own.low
            | exact HD.out (World.drew _) (kb_alloc XR.out _) (SY.out.alloc _).drew.own.low
            | exact HD.out _ x5 s5.own.low
            | exact HD.out _ (kb_alloc x5 _) (s5.alloc _).own.low
            | exact HD.out _ ((set_keep hxn _ _ _ _).trans x5) (s5.set y5 (by decide) (by decide) (by decide) hwl _ _ _ _).own.low)
          (first
            | (go_at_call 11; refine (DO.out _ SY.out.drew (by omega) hdk hdi hT0 hT1).mono ?_; rintro r w5 ⟨nw', A', len', cap', rfl, L', s5, mv5, f5⟩; have x5 := Whl.other SY.out.drew.own.whl f5 (j := xb) XR.out (by decide) (by decide))
            | (go_at_call 11; refine (DO.out _ (SY.out.alloc _).drew (by omega) hdk hdi hT0 hT1).mono ?_; rintro r w5 ⟨nw', A', len', cap', rfl, L', s5, mv5, f5⟩; have x5 := Whl.other (SY.out.alloc _).drew.own.whl f5 (j := xb) (kb_alloc XR.out _) (by decide) (by decide); have y5 := Whl.other (SY.out.alloc _).drew.own.whl f5 (j := w2.heap.size) (heap_alloc_at w2 (xobj 0 none 0 0)) (by decide) (by decide); obtain ⟨ya, yc⟩ := xcells y5; have yf0 := frozen_of y5 0; have yf1 := frozen_of y5 1))
        all_goals (go_wp2; go_meet)
        all_goals first
          | exact ⟨w5.heap.size, nw', L', A', len', cap', rfl, rfl, s5.alloc _, mv5, kb_alloc x5 _, heap_alloc_at _ _⟩
          | exact ⟨w2.heap.size, nw', L', A', len', cap', rfl, rfl, s5.set y5 (by decide) (by decide) (by decide) hwl _ _ _ _, mv5, (set_keep hxn _ _ _ _).trans x5, x_set y5⟩
      case rest =>
        obtain ⟨yb, nw', L', A', len', cap', rfl, rfl, s6, mv6, x6, y6⟩ := hcut
        obtain ⟨xa, xc⟩ := xcells x6
        obtain ⟨ya, yc⟩ := xcells y6
        have xf0 := frozen_of x6 0
        have xf1 := frozen_of x6 1
        have s7 := s6.set x6 (by decide) (by decide) (by decide) hxb 0 1 (.int .u64 nw') (.slice A' len' cap')
        have x7 := x_set (n' := nw') (A' := A') (len' := len') (cap' := cap') x6
        obtain ⟨q0, q1, q2, _⟩ := HQ.out _ s7.own.low
        have hdu := due_s b m nw' dk di L' _ s7.own.whl hdk hdi
        have S7 := Lib.hid s7
        have X7 := Lib.hid x7
        have MV := Lib.hid mv6
        clear s6 x6 y6 s7 x7 HD DO mv6
        go_wp2_with fail
        refine hdu.mono ?_
        clear hdu
        generalize (wc.setCell ⟨xb, 0, none⟩ (.int .u64 nw')).setCell ⟨xb, 1, none⟩ (.slice A' len' cap') = w7 at *
        rintro r w8 ⟨dd', st, rfl, hds', hb8⟩
        have S8 := Lib.hid (S7.out.below hb8)
        have X8 := Lib.hid (kb_below X7.out hb8)
        have HDS' := Lib.hid hds'
        have hne := next_s b m nw' L' _ S8.out.own.whl
        clear hds' hb8
        go_wp2_with fail
        refine hne.mono ?_
        clear hne
        rintro r w9 ⟨af, mo, rfl, haf, hb9⟩
        have S9 := Lib.hid (S8.out.below hb9)
        have X9 := Lib.hid (kb_below X8.out hb9)
        obtain ⟨q0, q1, q2, _⟩ := HQ.out _ S9.out.own.low
        have hno := now_whl b m nw' L' _ S9.out.own.whl
        have hmono : ¬ nw' < nw := by have := MV.out.1; omega
        have hl9 : L'.length ≤ i + 1 := Nat.le_trans MV.out.2.1 (by omega)
        have hnx := HNX.out
        clear hb9 xa xc ya yc xf0 xf1 q1 q2
        by_cases hk3 : kd = 3
        · have hk3b : (kd == 3) = true := by simp [hk3]
          cases dt with
          | false =>
            clear hk3
            rcases hnx with rfl | ⟨rfl, hnx⟩ <;> rcases haf with rfl | ⟨rfl, haf⟩ <;>
              (go_wp2_with (first | (go_at_call 17; refine hno.mono ?_; rintro e _ ⟨rfl, rfl⟩)); go_roundg (n - (i + 1)))
            all_goals first
              | (have := G.out; omega)
              | exact ⟨i + 1, nw', L', A', len', cap', by omega, by simp, S9.out, hl9, X9.out⟩
          | true =>
            cases st with
            | true =>
              clear hk3
              rcases hnx with rfl | ⟨rfl, hnx⟩ <;> rcases haf with rfl | ⟨rfl, haf⟩ <;>
                (go_wp2_with (first | (go_at_call 17; refine hno.mono ?_; rintro e _ ⟨rfl, rfl⟩)); go_roundg (n - (i + 1)))
              all_goals first
                | (have := G.out; omega)
                | exact ⟨i + 1, nw', L', A', len', cap', by omega, by simp, S9.out, hl9, X9.out⟩
            | false =>
              have hcd := came_due MV.out hk3 HDS.out HDS'.out
              subst hcd
              clear hk3
              rcases hnx with rfl | ⟨rfl, hnx⟩ <;> rcases haf with rfl | ⟨rfl, haf⟩ <;>
                (go_wp2_with (first | (go_at_call 17; refine hno.mono ?_; rintro e _ ⟨rfl, rfl⟩)); go_roundg (n - (i + 1)))
              all_goals first
                | (have := G.out; omega)
                | exact ⟨i + 1, nw', L', A', len', cap', by omega, by simp, S9.out, hl9, X9.out⟩
        · have hk3b : (kd == 3) = false := by simp [hk3]
          clear hk3
          rcases hnx with rfl | ⟨rfl, hnx⟩ <;> rcases haf with rfl | ⟨rfl, haf⟩ <;>
            (go_wp2_with (first | (go_at_call 17; refine hno.mono ?_; rintro e _ ⟨rfl, rfl⟩)); go_roundg (n - (i + 1)))
          all_goals first
            | (have := G.out; omega)
            | exact ⟨i + 1, nw', L', A', len', cap', by omega, by simp, S9.out, hl9, X9.out⟩
    · by_cases hil : (i : Int) < l1
      · have h100 : ¬ (i : Int) < 100 := by have := G.out; omega
        go_wp2
        go_ret
        exact ⟨rfl, SY0.out.own.low⟩
      · go_wp2
        go_ret
        exact ⟨rfl, SY0.out.own.low⟩

set_option maxRecDepth 100000 in
theorem lifted (os : Os) (started : os.Started) (H : Type) (enc : TypeId × Value → H) :
    ReturnsInHanded {} Try.checked os 6 .any (Rows.wheelTimeSpec.pre6 enc Try.prog Try.f6 Rows.wheelTimeRow.domain false) (Rows.wheelTimeSpec.post enc Try.prog Try.f6 false true false false) := by
  refine returnsInHanded_of_change_sized (C := Try.checked) own started (by kernel_rfl) Try.func6
    (ChangeSpec.witness6 (enc := enc) (C := Try.checked) false ⟨#[], #[.int .u64 0, .slice none 0 0], []⟩ 8 (by kernel_rfl) (by kernel_rfl) (by kernel_rfl) (by kernel_rfl)) ?_
  intro W base args ds gs before hval0 hW hcnd hsz0 _
  have hval : ∀ (j : Nat) t v, Try.f6.params[j]? = some t → args[j]? = some v → Value.okWide Try.prog W .any base t v := hval0
  have hsz : (DataW.weightsEach Try.prog (Try.f6.params.toList ++ Rows.wheelTimeSpec.plain.varTypes Try.prog) (ds ++ gs)).all (· ≤ reachBytes) = true := hsz0
  have hW' := hW
  obtain ⟨p, q, hA0, hV, rfl, hfz, hnd⟩ := hW
  have hA : DataW.TrodAll enc Try.prog W 0 (fun _ => true) true Try.f6.params.toList args.toList ds p := hA0
  rw [Try.params6] at hA hval hsz
  have hAk := hA
  obtain ⟨v0, vs0, d0, ds0, p0, q0, hargs, rfl, rfl, h0, r0⟩ := trodAll_cons hA
  obtain ⟨v1, vs1, d1, ds1, p1, q1, rfl, rfl, rfl, h1, r1⟩ := trodAll_cons r0
  obtain ⟨rfl, rfl, rfl⟩ := trodAll_nil r1
  obtain rfl : args = #[v0, v1] := by cases args; simp_all
  obtain ⟨rfl, rfl⟩ := trodVars_none hV
  obtain ⟨a0, rfl, rfl, rfl, w0⟩ := open_int Try.underlying22 (hval 0 22 v0 rfl rfl) h0
  obtain ⟨a1, l1, k1, L1, rfl, w1⟩ := open_slice_flat (ks := [.int .i64, .int .i64, .int .i64, .int .u64]) (bytes := 32) 8 Try.underlying23 (by kernel_rfl) (by kernel_rfl) (by decide) (by kernel_rfl) (hval 1 23 v1 rfl rfl) h1 (fun elems rest hd => by subst hd; exact sized_slice hsz (j := 1) (t := 23) (e := 35) rfl rfl Try.underlying23)
  clear hA0 hval0 hsz0
  refine (walk W a0 w0 a1 l1 k1 L1 w1).mono fun e W' ⟨he, bel⟩ => ?_
  subst he
  exact ⟨_, rfl, _, _, _, [], _, [], hW', trodAll_mk1 (shut_bool Try.underlying4 _), trodAll_below laidOut bel _ _ _ _ (by kernel_rfl) hAk, rfl, bel.frame _, fun h => by cases h⟩

theorem over : Rows.wheelTimeRow.holds Try.pinned (OpenSpec.ofChange Rows.wheelTimeSpec) :=
  OpenClaim.holds_of_wide 6 Try.f6 rfl rfl rfl rfl rfl rfl rfl ⟨rfl, rfl, rfl, rfl, rfl⟩ rfl rfl rfl rfl rfl (by kernel_rfl) Try.func6 (by kernel_rfl)
    (of_decide_eq_true (by kernel_rfl)) (by unfold Func.isWrapper; first | (rw [if_pos (by decide +kernel)]; kernel_rfl) | (rw [if_neg (by decide +kernel)]; exact ⟨rfl, rfl⟩))
    (fun os started H enc _ => lifted os started H enc)

theorem proved : Rows.WheelTimeSaid := over
#print axioms proved
end Go.Proofs.Ytgpebbopggmgbaa.wheelTime
