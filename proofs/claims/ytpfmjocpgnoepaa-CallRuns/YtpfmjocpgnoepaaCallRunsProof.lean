/- What is proved: CallRuns of porpoiselaw15 answers true for every input, and leaves its arguments as they were; conditions: those of the given row alone. -/
import Derived.Test.YtpfmjocpgnoepaaKit
import Derived.Test.YtpfmjocpgnoepaaLaw15
import Derived.Deep.DeepCutAuto
namespace Go.Proofs.Ytpfmjocpgnoepaa.callRuns
open Go.ChangeShapes Go.WideShapes Go.ChangeAt Go.RowKit Go.Deep
open Go.ChangeMaps (open_string shut_string)
set_option linter.unusedVariables false

theorem own : ownKnob Try.prog.godebug = none := by kernel_rfl
theorem laidOut : laidOutB Try.prog = true := by kernel_rfl



set_option maxRecDepth 100000 in
set_option maxHeartbeats 2000000 in
theorem walk (w : World) (c0 : Array Value) (w0 : Shp w [.row [.int .i64] 8, .row [.int .i64, .int .i64] 16, .lit (.int .i64), .lit (.int .i64), .lit (.int .i64), .lit (.int .u64)] c0.toList) (a1 : Int) (w1 : (Lit.int .i64 a1).wf = true) :
    Calls Try.prog 8 #[.agg c0, .int .i64 a1] w fun e w' => e = .returned (.bool true) ∧ Below w.heap.size w w' := by
  obtain ⟨A, n, k, M, m, d, KN, zs, ms, rfl, hB, hF, hZ⟩ := call_in w0
  obtain ⟨W, hW⟩ : ∃ W, w.alloc (.cells #[.slice A n k, .slice M m d, .int .i64 KN.st, .int .i64 KN.sp, .int .i64 KN.ca, .int .u64 KN.tm] 28) = W := ⟨_, rfl⟩
  have HW := Lib.hid hW
  have k0 : W.heap[w.heap.size]? = some (vobj 28 (kvals A n k M m d KN)) := by rw [← hW]; exact heap_alloc_at w (vobj 28 (kvals A n k M m d KN))
  have b0 : Below w.heap.size w W := by rw [← hW]; exact below_alloc w _
  have K0 := Lib.hid k0
  have B0 := Lib.hid b0
  have HB := Lib.hid hB
  have HF := Lib.hid hF
  clear w0 hW k0 b0 hB hZ hF
  go_enter Try.func8, Try.ntmps8
  go_wp2_with fail
  rw [HW.out]
  refine (awake15_any W).mono ?_
  rintro r wa ⟨rfl, ba⟩
  have BA := Lib.hid (B0.out.trans (ba.mono B0.out.size))
  have KA := Lib.hid (kb_below K0.out ba)
  obtain ⟨q0, q1, q2, q3, q4, q5⟩ := kobj_cells KA.out
  clear ba HW K0 B0
  go_wp2_with fail
  refine (few15_any A n k M m d wa).mono ?_
  rintro r wb ⟨rfl, bb⟩
  have BB := Lib.hid (BA.out.trans (bb.mono BA.out.size))
  have KB := Lib.hid (kb_below KA.out bb)
  clear q0 q1 q2 q3 q4 q5 bb KA BA
  by_cases hf : n ≤ 50 ∧ m ≤ 50
  case neg =>
    rw [decide_eq_false hf]
    clear hf
    go_wp2
    go_ret
    exact ⟨rfl, BB.out⟩
  case pos =>
    have hn : n ≤ 1000 := by omega
    have hm : m ≤ 1000 := by omega
    rw [decide_eq_true hf]
    clear hf
    go_upto_region 4 with fail
    go_cut [6] (fun vx wq => ∃ (g : Nat) (A2 : Option Addr) (c2 : Nat) (M2 : Option Addr) (d2 : Nat), vx = .pointer (some ⟨g, 0, none⟩) ∧ wb.heap.size ≤ g ∧ wq.heap[g]? = some (kobj A2 n c2 M2 m d2 ⟨1, 0, 0, KN.tm⟩) ∧ Bat wq A2 n c2 M2 m d2 zs ms ∧ Below wb.heap.size wb wq)
    case first =>
      have DW : Hid (Below wb.heap.size wb wb.drew) := Lib.hid (ali_below (drew_ali _))
      have KD : Hid (wb.drew.heap[w.heap.size]? = some (vobj 28 (kvals A n k M m d KN))) := Lib.hid KB.out
      have BD := Lib.hid (BB.out.trans (DW.out.mono BB.out.size))
      generalize hwd : wb.drew = wd at *
      have HWD := Lib.hid hwd
      have HS : Hid (∀ wx, Below wd.heap.size wd wx → wx.cell? ⟨w.heap.size, 0, none⟩ = some (.slice A n k) ∧ wx.cell? ⟨w.heap.size, 1, none⟩ = some (.slice M m d) ∧ wx.cell? ⟨w.heap.size, 2, none⟩ = some (.int .i64 KN.st) ∧ wx.cell? ⟨w.heap.size, 3, none⟩ = some (.int .i64 KN.sp) ∧ wx.cell? ⟨w.heap.size, 4, none⟩ = some (.int .i64 KN.ca) ∧ wx.cell? ⟨w.heap.size, 5, none⟩ = some (.int .u64 KN.tm)) := Lib.hid (fun wx hb => kobj_cells (kb_below KD.out hb))
      have H1 : Hid (∀ wx, Below wd.heap.size wd wx → Calls Try.prog 15 #[callV A n k M m d KN] wx fun r w' => ∃ M' d', r = .returned (callV A n k M' m d' KN) ∧ Bat w' A n k M' m d' zs ms ∧ Below wx.heap.size wx w') := Lib.hid (fun wx hb => made15_any A n k M m d KN zs ms wx (HB.out.below (BD.out.trans (hb.mono BD.out.size))) hm)
      have H5 : Hid (∀ M' d' wx, Bat wx A n k M' m d' zs ms → Calls Try.prog 22 #[batV A n k M' m d', .int .u64 KN.tm] wx fun r w' => ∃ A' c' M2 d2, r = .returned (callV A' n c' M2 m d2 ⟨1, 0, 0, KN.tm⟩) ∧ Bat w' A' n c' M2 m d2 zs ms ∧ (Fresh wx.heap.size A' ∧ Fresh wx.heap.size M2) ∧ Below wx.heap.size wx w') := Lib.hid (fun M' d' wx h => kbegin_is A n k M' m d' zs ms wx KN.tm h hn hm)
      have HFD : ∀ M' d' wx, (Instr.field 36 (callV A n k M' m d' KN) 0).run Try.prog wx = .ok (batV A n k M' m d') wx := fun _ _ _ => by kernel_rfl
      have Lwd : Hid (Below wd.heap.size wd wd) := Lib.hid (Below.refl _ _)
      clear hwd hn hm
      refine wp_region_held_drew (S := fun wx => wx.cell? ⟨w.heap.size, 0, none⟩ = some (.slice A n k) ∧ wx.cell? ⟨w.heap.size, 1, none⟩ = some (.slice M m d) ∧ wx.cell? ⟨w.heap.size, 2, none⟩ = some (.int .i64 KN.st) ∧ wx.cell? ⟨w.heap.size, 3, none⟩ = some (.int .i64 KN.sp) ∧ wx.cell? ⟨w.heap.size, 4, none⟩ = some (.int .i64 KN.ca) ∧ wx.cell? ⟨w.heap.size, 5, none⟩ = some (.int .u64 KN.tm)) (by kernel_rfl) (by rw [HWD.out]; exact HS.out _ Lwd.out) (fun hHeld => ?_)
      rw [HWD.out]
      rw [HWD.out] at hHeld
      refine wpAnyH_take (i := 0) (oi := ⟨_, _, _, _, _, _⟩) (v := ?_) rfl (by kernel_rfl) (by kernel_rfl) (by kernel_rfl) (fun _ _ _ h => h) (Or.inl ⟨by rfl, ?_⟩) (by assumption) ?_
      rotate_left
      · intro w hSw; (try dsimp only at hSw); go_simp; try (with_reducible rfl)
      try go_frame
      refine wpAnyH_take (i := 3) (oi := ⟨_, _, _, _, _, _⟩) (v := ?_) rfl (by kernel_rfl) (by kernel_rfl) (by kernel_rfl) (fun _ _ _ h => h) (Or.inl ⟨by rfl, ?_⟩) (by assumption) ?_
      rotate_left
      · intro w hSw; (try dsimp only at hSw); go_simp; try (with_reducible rfl)
      try go_frame
      refine wpAnyH_take (i := 4) (oi := ⟨_, _, _, _, _, _⟩) (v := ?_) rfl (by kernel_rfl) (by kernel_rfl) (by kernel_rfl) (fun _ _ _ h => h) (Or.inl ⟨by rfl, ?_⟩) (by assumption) ?_
      rotate_left
      · intro w hSw; (try dsimp only at hSw); go_simp; try (with_reducible rfl)
      try go_frame
      refine wpAnyH_ready (rs := [1, 6]) (by kernel_rfl) (by simp) ?_
      refine ready_cons (i := 1) (o := ⟨_, _, _, _, _, _⟩) rfl ?_ (ready_cons (i := 6) (o := ⟨_, _, _, _, _, _⟩) rfl ?_ AllReadyH.nil)
      · intro K hK
        refine call_step (f := 15) (args := #[callV A n k M m d KN]) rfl (by kernel_rfl) ?_
        refine (H1.out wd Lwd.out).mono ?_
        rintro r w1 ⟨M1, d1, rfl, g1, b1⟩
        refine ⟨_, rfl, ?_⟩
        have G1 := Lib.hid g1
        have Lw1 := Lib.hid (Lwd.out.trans (b1.mono Lwd.out.size))
        refine hK.out _ _ (HS.out _ Lw1.out) (fun hHeld => ?_)
        clear hK g1 b1
        try go_frame
        refine wpAnyH_take (i := 2) (oi := ⟨_, _, _, _, _, _⟩) (v := ?_) rfl (by kernel_rfl) (by kernel_rfl) (by kernel_rfl) (fun _ _ _ h => h) (Or.inl ⟨by rfl, ?_⟩) (by assumption) ?_
        rotate_left
        · intro w hSw; (try dsimp only at hSw); go_simp; try (with_reducible rfl)
        try go_frame
        refine wpAnyH_ready (rs := [5, 6]) (by kernel_rfl) (by simp) ?_
        refine ready_cons (i := 5) (o := ⟨_, _, _, _, _, _⟩) rfl ?_ (ready_cons (i := 6) (o := ⟨_, _, _, _, _, _⟩) rfl ?_ AllReadyH.nil)
        · intro K hK
          refine call_step (f := 22) (args := #[batV A n k M1 m d1, .int .u64 KN.tm]) rfl (by kernel_rfl) ?_
          refine (H5.out M1 d1 w1 G1.out).mono ?_
          rintro r w5 ⟨A2, c2, M2, d2, rfl, g5, ⟨fa, fm⟩, b5⟩
          refine ⟨_, rfl, ?_⟩
          have G5 := Lib.hid g5
          have Lw5 := Lib.hid (Lw1.out.trans (b5.mono Lw1.out.size))
          refine hK.out _ _ (HS.out _ Lw5.out) (fun hHeld => ?_)
          clear hK g5 b5 fa fm G1
          try go_frame
          refine wpAnyH_ready (rs := [6]) (by kernel_rfl) (by simp) ?_
          refine ready_cons (i := 6) (o := ⟨_, _, _, _, _, _⟩) rfl ?_ AllReadyH.nil
          intro K hK
          constructor
          go_simp
          have KX : Hid ((w5.alloc (.cells #[.slice none 0 0, .slice none 0 0, .int .i64 0, .int .i64 0, .int .i64 0, .int .u64 0] 36)).heap[w5.heap.size]? = some (kobj none 0 0 none 0 0 ⟨0, 0, 0, 0⟩)) := Lib.hid (heap_alloc_at w5 _)
          have Lw6 : Hid (Below wd.heap.size wd (w5.alloc (.cells #[.slice none 0 0, .slice none 0 0, .int .i64 0, .int .i64 0, .int .i64 0, .int .u64 0] 36))) := Lib.hid (Lw5.out.alloc Lw5.out.size _)
          have GX : Hid (wd.heap.size ≤ w5.heap.size) := Lib.hid Lw5.out.size
          have OF : Hid ((∀ b off, A2 = some ⟨b, off, none⟩ → 0 < n → b ≠ w5.heap.size) ∧ (∀ b off, M2 = some ⟨b, off, none⟩ → 0 < m → b ≠ w5.heap.size)) := Lib.hid ⟨fun b off e h0 => Nat.ne_of_lt (G5.out.ar.lt e h0), fun b off e h0 => Nat.ne_of_lt (G5.out.mr.lt e h0)⟩
          have G6 := Lib.hid (G5.out.below (below_alloc w5 (.cells #[.slice none 0 0, .slice none 0 0, .int .i64 0, .int .i64 0, .int .i64 0, .int .u64 0] 36)))
          have G5 := G6
          clear G6
          refine hK.out _ _ (HS.out _ Lw6.out) (fun hHeld => ?_)
          clear hK
          generalize w5.alloc (.cells #[.slice none 0 0, .slice none 0 0, .int .i64 0, .int .i64 0, .int .i64 0, .int .u64 0] 36) = w6 at *
          generalize hgx : w5.heap.size = g at *
          clear hgx
          try go_frame
          refine wpAnyH_ready (rs := [7]) (by kernel_rfl) (by simp) ?_
          refine ready_cons (i := 7) (o := ⟨_, _, _, _, _, _⟩) rfl ?_ AllReadyH.nil
          intro K hK
          refine store_step rfl 36 _ _ rfl g 0 36 (kvals none 0 0 none 0 0 ⟨0, 0, 0, 0⟩) (kvals A2 n c2 M2 m d2 ⟨1, 0, 0, KN.tm⟩) rfl rfl KX.out (Nat.le_refl _) sizeK (onesK _ _ _ _ _ _ _) ?_
          intro w7 k7 f7 z7
          clear z7
          have K7 := Lib.hid k7
          have F7 := Lib.hid f7
          have L7 : Hid (Below wd.heap.size wd w7) := Lib.hid (Lw6.out.trans (f7.below Lw6.out.size (fun j hj e => by have := GX.out; omega)))
          have H7 : Hid (Bat w7 A2 n c2 M2 m d2 zs ms) := Lib.hid ⟨G5.out.ar.apart f7 (fun b off e h0 hx => OF.out.1 b off e h0 hx), G5.out.mr.apart f7 (fun b off e h0 hx => OF.out.2 b off e h0 hx), G5.out.nc, G5.out.md, G5.out.fits⟩
          refine hK.out _ _ (HS.out _ L7.out) (fun hHeld => ?_)
          clear hK k7 f7
          try go_frame
          refine wpAnyH_done (by kernel_rfl) ?_ _
          go_wp2
          go_meet
          exact ⟨g, A2, c2, M2, d2, rfl, Nat.le_trans DW.out.size GX.out, K7.out, H7.out, DW.out.trans (L7.out.mono DW.out.size)⟩
        · intro K hK
          constructor
          go_simp
          have KX : Hid ((w1.alloc (.cells #[.slice none 0 0, .slice none 0 0, .int .i64 0, .int .i64 0, .int .i64 0, .int .u64 0] 36)).heap[w1.heap.size]? = some (kobj none 0 0 none 0 0 ⟨0, 0, 0, 0⟩)) := Lib.hid (heap_alloc_at w1 _)
          have Lw6 : Hid (Below wd.heap.size wd (w1.alloc (.cells #[.slice none 0 0, .slice none 0 0, .int .i64 0, .int .i64 0, .int .i64 0, .int .u64 0] 36))) := Lib.hid (Lw1.out.alloc Lw1.out.size _)
          have GX : Hid (wd.heap.size ≤ w1.heap.size) := Lib.hid Lw1.out.size
          have G6 := Lib.hid (G1.out.below (below_alloc w1 (.cells #[.slice none 0 0, .slice none 0 0, .int .i64 0, .int .i64 0, .int .i64 0, .int .u64 0] 36)))
          have G1 := G6
          clear G6
          refine hK.out _ _ (HS.out _ Lw6.out) (fun hHeld => ?_)
          clear hK
          generalize w1.alloc (.cells #[.slice none 0 0, .slice none 0 0, .int .i64 0, .int .i64 0, .int .i64 0, .int .u64 0] 36) = w6 at *
          generalize hgx : w1.heap.size = g at *
          clear hgx
          try go_frame
          refine wpAnyH_ready (rs := [5]) (by kernel_rfl) (by simp) ?_
          refine ready_cons (i := 5) (o := ⟨_, _, _, _, _, _⟩) rfl ?_ AllReadyH.nil
          intro K hK
          refine call_step (f := 22) (args := #[batV A n k M1 m d1, .int .u64 KN.tm]) rfl (by kernel_rfl) ?_
          refine (H5.out M1 d1 w6 G1.out).mono ?_
          rintro r w5 ⟨A2, c2, M2, d2, rfl, g5, ⟨fa, fm⟩, b5⟩
          refine ⟨_, rfl, ?_⟩
          have G5 := Lib.hid g5
          have Lw5 := Lib.hid (Lw6.out.trans (b5.mono Lw6.out.size))
          have OF : Hid ((∀ b off, A2 = some ⟨b, off, none⟩ → 0 < n → b ≠ g) ∧ (∀ b off, M2 = some ⟨b, off, none⟩ → 0 < m → b ≠ g)) := Lib.hid ⟨fun b off e _ => by have := fa b off e; have := heap_lt KX.out; omega, fun b off e _ => by have := fm b off e; have := heap_lt KX.out; omega⟩
          have KX1 := Lib.hid (kb_below KX.out b5)
          have KX := KX1
          clear KX1
          refine hK.out _ _ (HS.out _ Lw5.out) (fun hHeld => ?_)
          clear hK g5 b5 fa fm G1
          try go_frame
          refine wpAnyH_ready (rs := [7]) (by kernel_rfl) (by simp) ?_
          refine ready_cons (i := 7) (o := ⟨_, _, _, _, _, _⟩) rfl ?_ AllReadyH.nil
          intro K hK
          refine store_step rfl 36 _ _ rfl g 0 36 (kvals none 0 0 none 0 0 ⟨0, 0, 0, 0⟩) (kvals A2 n c2 M2 m d2 ⟨1, 0, 0, KN.tm⟩) rfl rfl KX.out (Nat.le_refl _) sizeK (onesK _ _ _ _ _ _ _) ?_
          intro w7 k7 f7 z7
          clear z7
          have K7 := Lib.hid k7
          have F7 := Lib.hid f7
          have L7 : Hid (Below wd.heap.size wd w7) := Lib.hid (Lw5.out.trans (f7.below Lw5.out.size (fun j hj e => by have := GX.out; omega)))
          have H7 : Hid (Bat w7 A2 n c2 M2 m d2 zs ms) := Lib.hid ⟨G5.out.ar.apart f7 (fun b off e h0 hx => OF.out.1 b off e h0 hx), G5.out.mr.apart f7 (fun b off e h0 hx => OF.out.2 b off e h0 hx), G5.out.nc, G5.out.md, G5.out.fits⟩
          refine hK.out _ _ (HS.out _ L7.out) (fun hHeld => ?_)
          clear hK k7 f7
          try go_frame
          refine wpAnyH_done (by kernel_rfl) ?_ _
          go_wp2
          go_meet
          exact ⟨g, A2, c2, M2, d2, rfl, Nat.le_trans DW.out.size GX.out, K7.out, H7.out, DW.out.trans (L7.out.mono DW.out.size)⟩
      · intro K hK
        constructor
        go_simp
        have KX : Hid ((wd.alloc (.cells #[.slice none 0 0, .slice none 0 0, .int .i64 0, .int .i64 0, .int .i64 0, .int .u64 0] 36)).heap[wd.heap.size]? = some (kobj none 0 0 none 0 0 ⟨0, 0, 0, 0⟩)) := Lib.hid (heap_alloc_at wd _)
        have Lw6 : Hid (Below wd.heap.size wd (wd.alloc (.cells #[.slice none 0 0, .slice none 0 0, .int .i64 0, .int .i64 0, .int .i64 0, .int .u64 0] 36))) := Lib.hid (Lwd.out.alloc Lwd.out.size _)
        have GX : Hid (wd.heap.size ≤ wd.heap.size) := Lib.hid Lwd.out.size
        refine hK.out _ _ (HS.out _ Lw6.out) (fun hHeld => ?_)
        clear hK
        generalize wd.alloc (.cells #[.slice none 0 0, .slice none 0 0, .int .i64 0, .int .i64 0, .int .i64 0, .int .u64 0] 36) = w6 at *
        obtain ⟨g, hg⟩ : ∃ g, wd.heap.size = g := ⟨_, rfl⟩
        rw [hg] at KX
        clear GX
        have GX : Hid (wd.heap.size ≤ g) := Lib.hid (Nat.le_of_eq hg)
        try rw [hg]
        clear hg
        try go_frame
        refine wpAnyH_ready (rs := [1]) (by kernel_rfl) (by simp) ?_
        refine ready_cons (i := 1) (o := ⟨_, _, _, _, _, _⟩) rfl ?_ AllReadyH.nil
        intro K hK
        refine call_step (f := 15) (args := #[callV A n k M m d KN]) rfl (by kernel_rfl) ?_
        refine (H1.out w6 Lw6.out).mono ?_
        rintro r w1 ⟨M1, d1, rfl, g1, b1⟩
        refine ⟨_, rfl, ?_⟩
        have G1 := Lib.hid g1
        have Lw1 := Lib.hid (Lw6.out.trans (b1.mono Lw6.out.size))
        have KX1 := Lib.hid (kb_below KX.out b1)
        have KX := KX1
        clear KX1
        refine hK.out _ _ (HS.out _ Lw1.out) (fun hHeld => ?_)
        clear hK g1 b1
        try go_frame
        refine wpAnyH_take (i := 2) (oi := ⟨_, _, _, _, _, _⟩) (v := ?_) rfl (by kernel_rfl) (by kernel_rfl) (by kernel_rfl) (fun _ _ _ h => h) (Or.inl ⟨by rfl, ?_⟩) (by assumption) ?_
        rotate_left
        · intro w hSw; (try dsimp only at hSw); go_simp; try (with_reducible rfl)
        try go_frame
        refine wpAnyH_ready (rs := [5]) (by kernel_rfl) (by simp) ?_
        refine ready_cons (i := 5) (o := ⟨_, _, _, _, _, _⟩) rfl ?_ AllReadyH.nil
        intro K hK
        refine call_step (f := 22) (args := #[batV A n k M1 m d1, .int .u64 KN.tm]) rfl (by kernel_rfl) ?_
        refine (H5.out M1 d1 w1 G1.out).mono ?_
        rintro r w5 ⟨A2, c2, M2, d2, rfl, g5, ⟨fa, fm⟩, b5⟩
        refine ⟨_, rfl, ?_⟩
        have G5 := Lib.hid g5
        have Lw5 := Lib.hid (Lw1.out.trans (b5.mono Lw1.out.size))
        have OF : Hid ((∀ b off, A2 = some ⟨b, off, none⟩ → 0 < n → b ≠ g) ∧ (∀ b off, M2 = some ⟨b, off, none⟩ → 0 < m → b ≠ g)) := Lib.hid ⟨fun b off e _ => by have := fa b off e; have := heap_lt KX.out; omega, fun b off e _ => by have := fm b off e; have := heap_lt KX.out; omega⟩
        have KX1 := Lib.hid (kb_below KX.out b5)
        have KX := KX1
        clear KX1
        refine hK.out _ _ (HS.out _ Lw5.out) (fun hHeld => ?_)
        clear hK g5 b5 fa fm G1
        try go_frame
        refine wpAnyH_ready (rs := [7]) (by kernel_rfl) (by simp) ?_
        refine ready_cons (i := 7) (o := ⟨_, _, _, _, _, _⟩) rfl ?_ AllReadyH.nil
        intro K hK
        refine store_step rfl 36 _ _ rfl g 0 36 (kvals none 0 0 none 0 0 ⟨0, 0, 0, 0⟩) (kvals A2 n c2 M2 m d2 ⟨1, 0, 0, KN.tm⟩) rfl rfl KX.out (Nat.le_refl _) sizeK (onesK _ _ _ _ _ _ _) ?_
        intro w7 k7 f7 z7
        clear z7
        have K7 := Lib.hid k7
        have F7 := Lib.hid f7
        have L7 : Hid (Below wd.heap.size wd w7) := Lib.hid (Lw5.out.trans (f7.below Lw5.out.size (fun j hj e => by have := GX.out; omega)))
        have H7 : Hid (Bat w7 A2 n c2 M2 m d2 zs ms) := Lib.hid ⟨G5.out.ar.apart f7 (fun b off e h0 hx => OF.out.1 b off e h0 hx), G5.out.mr.apart f7 (fun b off e h0 hx => OF.out.2 b off e h0 hx), G5.out.nc, G5.out.md, G5.out.fits⟩
        refine hK.out _ _ (HS.out _ L7.out) (fun hHeld => ?_)
        clear hK k7 f7
        try go_frame
        refine wpAnyH_done (by kernel_rfl) ?_ _
        go_wp2
        go_meet
        exact ⟨g, A2, c2, M2, d2, rfl, Nat.le_trans DW.out.size GX.out, K7.out, H7.out, DW.out.trans (L7.out.mono DW.out.size)⟩
    case rest =>
      obtain ⟨g, A2, c2, M2, d2, rfl, hg, hk, hh, hl⟩ := hcut
      have GG := Lib.hid hg
      have KG := Lib.hid hk
      have HG := Lib.hid hh
      have LG := Lib.hid hl
      clear hg hk hh hl
      have L := Lib.hid (BB.out.trans (LG.out.mono BB.out.size))
      have KS := Lib.hid (kb_below KB.out LG.out)
      have SG : Hid (w.heap.size ≤ g) := Lib.hid (Nat.le_trans BB.out.size GG.out)
      clear KB BB LG GG
      clear SG
      obtain ⟨x0, x1, x2, x3, x4, x5⟩ := kobj_cells KG.out
      try simp only at x2 x3 x4 x5
      go_wp2_with fail
      clear x0 x1 x2 x3 x4 x5
      refine (krun_is A2 n c2 M2 m d2 ⟨1, 0, 0, KN.tm⟩ ⟨2, 0, 0, KN.tm⟩ true zs ms wc rfl rfl HG.out hn hm).mono ?_
      rintro r v1 ⟨Av1, cv1, Mv1, dv1, rfl, hv1, ⟨fav1, fmv1⟩, bv1⟩
      have Hv1 := Lib.hid hv1
      have Nv1 : Hid (Fresh wc.heap.size Av1 ∧ Fresh wc.heap.size Mv1) := Lib.hid ⟨fav1, fmv1⟩
      have L_ := Lib.hid (L.out.trans (bv1.mono L.out.size))
      have KS_ := Lib.hid (kb_below KS.out bv1)
      have KG_ := Lib.hid (kb_below KG.out bv1)
      have HG_ := Lib.hid (HG.out.below bv1)
      clear L KS KG HG
      have L := L_
      have KS := KS_
      have KG := KG_
      have HG := HG_
      clear L_ KS_ KG_ HG_
      clear hv1 fav1 fmv1 bv1
      go_upto_region 6 with fail
      have KA : Hid ((v1.alloc (.cells #[.slice Av1 n cv1, .slice Mv1 m dv1, .int .i64 2, .int .i64 0, .int .i64 0, .int .u64 KN.tm] 36)).heap[v1.heap.size]? = some (kobj Av1 n cv1 Mv1 m dv1 ⟨2, 0, 0, KN.tm⟩)) := Lib.hid (heap_alloc_at v1 _)
      have bv2 : Below v1.heap.size v1 (v1.alloc (.cells #[.slice Av1 n cv1, .slice Mv1 m dv1, .int .i64 2, .int .i64 0, .int .i64 0, .int .u64 KN.tm] 36)) := below_alloc v1 _
      have L_ := Lib.hid (L.out.trans (bv2.mono L.out.size))
      have KS_ := Lib.hid (kb_below KS.out bv2)
      have KG_ := Lib.hid (kb_below KG.out bv2)
      have HG_ := Lib.hid (HG.out.below bv2)
      have Hv1_ := Lib.hid (Hv1.out.below bv2)
      clear L KS KG HG Hv1
      have L := L_
      have KS := KS_
      have KG := KG_
      have HG := HG_
      have Hv1 := Hv1_
      clear L_ KS_ KG_ HG_ Hv1_
      clear bv2 Nv1
      generalize v1.alloc (.cells #[.slice Av1 n cv1, .slice Mv1 m dv1, .int .i64 2, .int .i64 0, .int .i64 0, .int .u64 KN.tm] 36) = v2 at *
      generalize v1.heap.size = gv1 at *
      obtain ⟨x0, x1, x2, x3, x4, x5⟩ := kobj_cells KA.out
      try simp only at x2 x3 x4 x5
      go_wp2_with fail
      clear x0 x1 x2 x3 x4 x5
      refine (krun_is Av1 n cv1 Mv1 m dv1 ⟨2, 0, 0, KN.tm⟩ ⟨2, 0, 0, KN.tm⟩ false zs ms v2 rfl rfl Hv1.out hn hm).mono ?_
      rintro r v3 ⟨Av3, cv3, Mv3, dv3, rfl, hv3, ⟨fav3, fmv3⟩, bv3⟩
      have Hv3 := Lib.hid hv3
      have Nv3 : Hid (Fresh v2.heap.size Av3 ∧ Fresh v2.heap.size Mv3) := Lib.hid ⟨fav3, fmv3⟩
      have L_ := Lib.hid (L.out.trans (bv3.mono L.out.size))
      have KS_ := Lib.hid (kb_below KS.out bv3)
      have KG_ := Lib.hid (kb_below KG.out bv3)
      have KA_ := Lib.hid (kb_below KA.out bv3)
      have HG_ := Lib.hid (HG.out.below bv3)
      have Hv1_ := Lib.hid (Hv1.out.below bv3)
      clear L KS KG KA HG Hv1
      have L := L_
      have KS := KS_
      have KG := KG_
      have KA := KA_
      have HG := HG_
      have Hv1 := Hv1_
      clear L_ KS_ KG_ KA_ HG_ Hv1_
      clear hv3 fav3 fmv3 bv3
      go_upto_region 7 with fail
      have KU : Hid ((v3.alloc (.cells #[.slice Av3 n cv3, .slice Mv3 m dv3, .int .i64 2, .int .i64 0, .int .i64 0, .int .u64 KN.tm] 36)).heap[v3.heap.size]? = some (kobj Av3 n cv3 Mv3 m dv3 ⟨2, 0, 0, KN.tm⟩)) := Lib.hid (heap_alloc_at v3 _)
      have bv4 : Below v3.heap.size v3 (v3.alloc (.cells #[.slice Av3 n cv3, .slice Mv3 m dv3, .int .i64 2, .int .i64 0, .int .i64 0, .int .u64 KN.tm] 36)) := below_alloc v3 _
      have L_ := Lib.hid (L.out.trans (bv4.mono L.out.size))
      have KS_ := Lib.hid (kb_below KS.out bv4)
      have KG_ := Lib.hid (kb_below KG.out bv4)
      have KA_ := Lib.hid (kb_below KA.out bv4)
      have HG_ := Lib.hid (HG.out.below bv4)
      have Hv1_ := Lib.hid (Hv1.out.below bv4)
      have Hv3_ := Lib.hid (Hv3.out.below bv4)
      clear L KS KG KA HG Hv1 Hv3
      have L := L_
      have KS := KS_
      have KG := KG_
      have KA := KA_
      have HG := HG_
      have Hv1 := Hv1_
      have Hv3 := Hv3_
      clear L_ KS_ KG_ KA_ HG_ Hv1_ Hv3_
      clear bv4 Nv3
      generalize v3.alloc (.cells #[.slice Av3 n cv3, .slice Mv3 m dv3, .int .i64 2, .int .i64 0, .int .i64 0, .int .u64 KN.tm] 36) = v4 at *
      generalize v3.heap.size = gv3 at *
      obtain ⟨x0, x1, x2, x3, x4, x5⟩ := kobj_cells KA.out
      try simp only at x2 x3 x4 x5
      go_wp2_with fail
      clear x0 x1 x2 x3 x4 x5
      refine (kfail_is Av1 n cv1 Mv1 m dv1 ⟨2, 0, 0, KN.tm⟩ ⟨3, 1, a1, KN.tm⟩ true zs ms v4 a1 5 rfl rfl Hv1.out hn hm (wf64_lit (k := 0) (by decide) (by decide)) (wf64_lit (k := 5) (by decide) (by decide))).mono ?_
      rintro r v5 ⟨Av5, cv5, Mv5, dv5, rfl, hv5, ⟨fav5, fmv5⟩, bv5⟩
      have Hv5 := Lib.hid hv5
      have Nv5 : Hid (Fresh v4.heap.size Av5 ∧ Fresh v4.heap.size Mv5) := Lib.hid ⟨fav5, fmv5⟩
      have L_ := Lib.hid (L.out.trans (bv5.mono L.out.size))
      have KS_ := Lib.hid (kb_below KS.out bv5)
      have KG_ := Lib.hid (kb_below KG.out bv5)
      have KA_ := Lib.hid (kb_below KA.out bv5)
      have KU_ := Lib.hid (kb_below KU.out bv5)
      have HG_ := Lib.hid (HG.out.below bv5)
      have Hv1_ := Lib.hid (Hv1.out.below bv5)
      have Hv3_ := Lib.hid (Hv3.out.below bv5)
      clear L KS KG KA KU HG Hv1 Hv3
      have L := L_
      have KS := KS_
      have KG := KG_
      have KA := KA_
      have KU := KU_
      have HG := HG_
      have Hv1 := Hv1_
      have Hv3 := Hv3_
      clear L_ KS_ KG_ KA_ KU_ HG_ Hv1_ Hv3_
      clear hv5 fav5 fmv5 bv5
      go_upto_region 8 with fail
      have KF : Hid ((v5.alloc (.cells #[.slice Av5 n cv5, .slice Mv5 m dv5, .int .i64 3, .int .i64 1, .int .i64 a1, .int .u64 KN.tm] 36)).heap[v5.heap.size]? = some (kobj Av5 n cv5 Mv5 m dv5 ⟨3, 1, a1, KN.tm⟩)) := Lib.hid (heap_alloc_at v5 _)
      have bv6 : Below v5.heap.size v5 (v5.alloc (.cells #[.slice Av5 n cv5, .slice Mv5 m dv5, .int .i64 3, .int .i64 1, .int .i64 a1, .int .u64 KN.tm] 36)) := below_alloc v5 _
      have L_ := Lib.hid (L.out.trans (bv6.mono L.out.size))
      have KS_ := Lib.hid (kb_below KS.out bv6)
      have KG_ := Lib.hid (kb_below KG.out bv6)
      have KA_ := Lib.hid (kb_below KA.out bv6)
      have KU_ := Lib.hid (kb_below KU.out bv6)
      have HG_ := Lib.hid (HG.out.below bv6)
      have Hv1_ := Lib.hid (Hv1.out.below bv6)
      have Hv3_ := Lib.hid (Hv3.out.below bv6)
      have Hv5_ := Lib.hid (Hv5.out.below bv6)
      clear L KS KG KA KU HG Hv1 Hv3 Hv5
      have L := L_
      have KS := KS_
      have KG := KG_
      have KA := KA_
      have KU := KU_
      have HG := HG_
      have Hv1 := Hv1_
      have Hv3 := Hv3_
      have Hv5 := Hv5_
      clear L_ KS_ KG_ KA_ KU_ HG_ Hv1_ Hv3_ Hv5_
      clear bv6 Nv5
      generalize v5.alloc (.cells #[.slice Av5 n cv5, .slice Mv5 m dv5, .int .i64 3, .int .i64 1, .int .i64 a1, .int .u64 KN.tm] 36) = v6 at *
      generalize v5.heap.size = gv5 at *
      obtain ⟨x0, x1, x2, x3, x4, x5⟩ := kobj_cells KF.out
      try simp only at x2 x3 x4 x5
      go_wp2_with fail
      clear x0 x1 x2 x3 x4 x5
      refine (krun_is Av5 n cv5 Mv5 m dv5 ⟨3, 1, a1, KN.tm⟩ ⟨3, 1, a1, KN.tm⟩ false zs ms v6 rfl rfl Hv5.out hn hm).mono ?_
      rintro r v7 ⟨Av7, cv7, Mv7, dv7, rfl, hv7, ⟨fav7, fmv7⟩, bv7⟩
      have Hv7 := Lib.hid hv7
      have Nv7 : Hid (Fresh v6.heap.size Av7 ∧ Fresh v6.heap.size Mv7) := Lib.hid ⟨fav7, fmv7⟩
      have L_ := Lib.hid (L.out.trans (bv7.mono L.out.size))
      have KS_ := Lib.hid (kb_below KS.out bv7)
      have KG_ := Lib.hid (kb_below KG.out bv7)
      have KA_ := Lib.hid (kb_below KA.out bv7)
      have KU_ := Lib.hid (kb_below KU.out bv7)
      have KF_ := Lib.hid (kb_below KF.out bv7)
      have HG_ := Lib.hid (HG.out.below bv7)
      have Hv1_ := Lib.hid (Hv1.out.below bv7)
      have Hv3_ := Lib.hid (Hv3.out.below bv7)
      have Hv5_ := Lib.hid (Hv5.out.below bv7)
      clear L KS KG KA KU KF HG Hv1 Hv3 Hv5
      have L := L_
      have KS := KS_
      have KG := KG_
      have KA := KA_
      have KU := KU_
      have KF := KF_
      have HG := HG_
      have Hv1 := Hv1_
      have Hv3 := Hv3_
      have Hv5 := Hv5_
      clear L_ KS_ KG_ KA_ KU_ KF_ HG_ Hv1_ Hv3_ Hv5_
      clear hv7 fav7 fmv7 bv7
      go_upto_region 9 with fail
      have KV : Hid ((v7.alloc (.cells #[.slice Av7 n cv7, .slice Mv7 m dv7, .int .i64 3, .int .i64 1, .int .i64 a1, .int .u64 KN.tm] 36)).heap[v7.heap.size]? = some (kobj Av7 n cv7 Mv7 m dv7 ⟨3, 1, a1, KN.tm⟩)) := Lib.hid (heap_alloc_at v7 _)
      have bv8 : Below v7.heap.size v7 (v7.alloc (.cells #[.slice Av7 n cv7, .slice Mv7 m dv7, .int .i64 3, .int .i64 1, .int .i64 a1, .int .u64 KN.tm] 36)) := below_alloc v7 _
      have L_ := Lib.hid (L.out.trans (bv8.mono L.out.size))
      have KS_ := Lib.hid (kb_below KS.out bv8)
      have KG_ := Lib.hid (kb_below KG.out bv8)
      have KA_ := Lib.hid (kb_below KA.out bv8)
      have KU_ := Lib.hid (kb_below KU.out bv8)
      have KF_ := Lib.hid (kb_below KF.out bv8)
      have HG_ := Lib.hid (HG.out.below bv8)
      have Hv1_ := Lib.hid (Hv1.out.below bv8)
      have Hv3_ := Lib.hid (Hv3.out.below bv8)
      have Hv5_ := Lib.hid (Hv5.out.below bv8)
      have Hv7_ := Lib.hid (Hv7.out.below bv8)
      clear L KS KG KA KU KF HG Hv1 Hv3 Hv5 Hv7
      have L := L_
      have KS := KS_
      have KG := KG_
      have KA := KA_
      have KU := KU_
      have KF := KF_
      have HG := HG_
      have Hv1 := Hv1_
      have Hv3 := Hv3_
      have Hv5 := Hv5_
      have Hv7 := Hv7_
      clear L_ KS_ KG_ KA_ KU_ KF_ HG_ Hv1_ Hv3_ Hv5_ Hv7_
      clear bv8 Nv7
      generalize v7.alloc (.cells #[.slice Av7 n cv7, .slice Mv7 m dv7, .int .i64 3, .int .i64 1, .int .i64 a1, .int .u64 KN.tm] 36) = v8 at *
      generalize v7.heap.size = gv7 at *
      obtain ⟨x0, x1, x2, x3, x4, x5⟩ := kobj_cells KG.out
      try simp only at x2 x3 x4 x5
      go_wp2_with fail
      clear x0 x1 x2 x3 x4 x5
      refine (kfail_is A2 n c2 M2 m d2 ⟨1, 0, 0, KN.tm⟩ ⟨3, 1, a1, KN.tm⟩ true zs ms v8 a1 5 rfl rfl HG.out hn hm (wf64_lit (k := 0) (by decide) (by decide)) (wf64_lit (k := 5) (by decide) (by decide))).mono ?_
      rintro r v9 ⟨Av9, cv9, Mv9, dv9, rfl, hv9, ⟨fav9, fmv9⟩, bv9⟩
      have Hv9 := Lib.hid hv9
      have Nv9 : Hid (Fresh v8.heap.size Av9 ∧ Fresh v8.heap.size Mv9) := Lib.hid ⟨fav9, fmv9⟩
      have L_ := Lib.hid (L.out.trans (bv9.mono L.out.size))
      have KS_ := Lib.hid (kb_below KS.out bv9)
      have KG_ := Lib.hid (kb_below KG.out bv9)
      have KA_ := Lib.hid (kb_below KA.out bv9)
      have KU_ := Lib.hid (kb_below KU.out bv9)
      have KF_ := Lib.hid (kb_below KF.out bv9)
      have KV_ := Lib.hid (kb_below KV.out bv9)
      have HG_ := Lib.hid (HG.out.below bv9)
      have Hv1_ := Lib.hid (Hv1.out.below bv9)
      have Hv3_ := Lib.hid (Hv3.out.below bv9)
      have Hv5_ := Lib.hid (Hv5.out.below bv9)
      have Hv7_ := Lib.hid (Hv7.out.below bv9)
      clear L KS KG KA KU KF KV HG Hv1 Hv3 Hv5 Hv7
      have L := L_
      have KS := KS_
      have KG := KG_
      have KA := KA_
      have KU := KU_
      have KF := KF_
      have KV := KV_
      have HG := HG_
      have Hv1 := Hv1_
      have Hv3 := Hv3_
      have Hv5 := Hv5_
      have Hv7 := Hv7_
      clear L_ KS_ KG_ KA_ KU_ KF_ KV_ HG_ Hv1_ Hv3_ Hv5_ Hv7_
      clear hv9 fav9 fmv9 bv9
      go_upto_region 10 with fail
      have KD : Hid ((v9.alloc (.cells #[.slice Av9 n cv9, .slice Mv9 m dv9, .int .i64 3, .int .i64 1, .int .i64 a1, .int .u64 KN.tm] 36)).heap[v9.heap.size]? = some (kobj Av9 n cv9 Mv9 m dv9 ⟨3, 1, a1, KN.tm⟩)) := Lib.hid (heap_alloc_at v9 _)
      have bv10 : Below v9.heap.size v9 (v9.alloc (.cells #[.slice Av9 n cv9, .slice Mv9 m dv9, .int .i64 3, .int .i64 1, .int .i64 a1, .int .u64 KN.tm] 36)) := below_alloc v9 _
      have L_ := Lib.hid (L.out.trans (bv10.mono L.out.size))
      have KS_ := Lib.hid (kb_below KS.out bv10)
      have KG_ := Lib.hid (kb_below KG.out bv10)
      have KA_ := Lib.hid (kb_below KA.out bv10)
      have KU_ := Lib.hid (kb_below KU.out bv10)
      have KF_ := Lib.hid (kb_below KF.out bv10)
      have KV_ := Lib.hid (kb_below KV.out bv10)
      have HG_ := Lib.hid (HG.out.below bv10)
      have Hv1_ := Lib.hid (Hv1.out.below bv10)
      have Hv3_ := Lib.hid (Hv3.out.below bv10)
      have Hv5_ := Lib.hid (Hv5.out.below bv10)
      have Hv7_ := Lib.hid (Hv7.out.below bv10)
      have Hv9_ := Lib.hid (Hv9.out.below bv10)
      clear L KS KG KA KU KF KV HG Hv1 Hv3 Hv5 Hv7 Hv9
      have L := L_
      have KS := KS_
      have KG := KG_
      have KA := KA_
      have KU := KU_
      have KF := KF_
      have KV := KV_
      have HG := HG_
      have Hv1 := Hv1_
      have Hv3 := Hv3_
      have Hv5 := Hv5_
      have Hv7 := Hv7_
      have Hv9 := Hv9_
      clear L_ KS_ KG_ KA_ KU_ KF_ KV_ HG_ Hv1_ Hv3_ Hv5_ Hv7_ Hv9_
      clear bv10 Nv9
      generalize v9.alloc (.cells #[.slice Av9 n cv9, .slice Mv9 m dv9, .int .i64 3, .int .i64 1, .int .i64 a1, .int .u64 KN.tm] 36) = v10 at *
      generalize v9.heap.size = gv9 at *
      obtain ⟨x0, x1, x2, x3, x4, x5⟩ := kobj_cells KF.out
      try simp only at x2 x3 x4 x5
      obtain ⟨s0, s1, s2, s3, s4, s5⟩ := kobj_cells KS.out
      try simp only at s2 s3 s4 s5
      have p2 := vobj_cell KA.out (j := 2) rfl
      try simp only at p2
      go_wp2_with fail
      clear x0 x1 x2 x3 x4 x5 s0 s1 s2 s3 s4 s5 p2
      refine (same15_any Av5 n cv5 Mv5 m dv5 A k M d ⟨3, 1, a1, KN.tm⟩ zs ms v10 Hv5.out (HB.out.below L.out) hm).mono ?_
      rintro r v11 ⟨rfl, bv11⟩
      have L_ := Lib.hid (L.out.trans (bv11.mono L.out.size))
      have KS_ := Lib.hid (kb_below KS.out bv11)
      have KG_ := Lib.hid (kb_below KG.out bv11)
      have KA_ := Lib.hid (kb_below KA.out bv11)
      have KU_ := Lib.hid (kb_below KU.out bv11)
      have KF_ := Lib.hid (kb_below KF.out bv11)
      have KV_ := Lib.hid (kb_below KV.out bv11)
      have KD_ := Lib.hid (kb_below KD.out bv11)
      have HG_ := Lib.hid (HG.out.below bv11)
      have Hv1_ := Lib.hid (Hv1.out.below bv11)
      have Hv3_ := Lib.hid (Hv3.out.below bv11)
      have Hv5_ := Lib.hid (Hv5.out.below bv11)
      have Hv7_ := Lib.hid (Hv7.out.below bv11)
      have Hv9_ := Lib.hid (Hv9.out.below bv11)
      clear L KS KG KA KU KF KV KD HG Hv1 Hv3 Hv5 Hv7 Hv9
      have L := L_
      have KS := KS_
      have KG := KG_
      have KA := KA_
      have KU := KU_
      have KF := KF_
      have KV := KV_
      have KD := KD_
      have HG := HG_
      have Hv1 := Hv1_
      have Hv3 := Hv3_
      have Hv5 := Hv5_
      have Hv7 := Hv7_
      have Hv9 := Hv9_
      clear L_ KS_ KG_ KA_ KU_ KF_ KV_ KD_ HG_ Hv1_ Hv3_ Hv5_ Hv7_ Hv9_
      clear bv11
      obtain ⟨x0, x1, x2, x3, x4, x5⟩ := kobj_cells KF.out
      try simp only at x2 x3 x4 x5
      obtain ⟨y0, y1, y2, y3, y4, y5⟩ := kobj_cells KD.out
      try simp only at y2 y3 y4 y5
      go_wp2
      go_ret
      exact ⟨rfl, L.out⟩

set_option maxRecDepth 100000 in
theorem lifted (os : Os) (started : os.Started) (H : Type) (enc : TypeId × Value → H) :
    ReturnsInHanded {} Try.checked os 8 .any (Rows.callRunsSpec.pre6 enc Try.prog Try.f8 Rows.callRunsRow.domain false) (Rows.callRunsSpec.post enc Try.prog Try.f8 false true false false) := by
  refine returnsInHanded_of_change_sized (C := Try.checked) own started (by kernel_rfl) Try.func8
    (ChangeSpec.witness6 (enc := enc) (C := Try.checked) false ⟨#[], #[.agg #[.slice none 0 0, .slice none 0 0, .int .i64 0, .int .i64 0, .int .i64 0, .int .u64 0], .int .i64 0], []⟩ 8 (by kernel_rfl) (by kernel_rfl) (by kernel_rfl) (by kernel_rfl)) ?_
  intro W base args ds gs before hval0 hW hcnd hsz0 _
  have hval : ∀ (j : Nat) t v, Try.f8.params[j]? = some t → args[j]? = some v → Value.okWide Try.prog W .any base t v := hval0
  have hsz : (DataW.weightsEach Try.prog (Try.f8.params.toList ++ Rows.callRunsSpec.plain.varTypes Try.prog) (ds ++ gs)).all (· ≤ reachBytes) = true := hsz0
  have hW' := hW
  obtain ⟨p, q, hA0, hV, rfl, hfz, hnd⟩ := hW
  have hA : DataW.TrodAll enc Try.prog W 0 (fun _ => true) true Try.f8.params.toList args.toList ds p := hA0
  rw [Try.params8] at hA hval hsz
  have hAk := hA
  obtain ⟨v0, vs0, d0, ds0, p0, q0, hargs, rfl, rfl, h0, r0⟩ := trodAll_cons hA
  obtain ⟨v1, vs1, d1, ds1, p1, q1, rfl, rfl, rfl, h1, r1⟩ := trodAll_cons r0
  obtain ⟨rfl, rfl, rfl⟩ := trodAll_nil r1
  obtain rfl : args = #[v0, v1] := by cases args; simp_all
  obtain ⟨rfl, rfl⟩ := trodVars_none hV
  obtain ⟨c0, rfl, w0⟩ := open_shape (ss := [.row [.int .i64] 8, .row [.int .i64, .int .i64] 16, .lit (.int .i64), .lit (.int .i64), .lit (.int .i64), .lit (.int .u64)]) 8 (by kernel_rfl) (by kernel_rfl) (hval 0 28 v0 rfl rfl) h0 hsz 0 rfl rfl
  obtain ⟨a1, rfl, rfl, rfl, w1⟩ := open_int Try.underlying3 (hval 1 3 v1 rfl rfl) h1
  clear hA0 hval0 hsz0
  refine (walk W c0 w0 a1 w1).mono fun e W' ⟨he, bel⟩ => ?_
  subst he
  exact ⟨_, rfl, _, _, _, [], _, [], hW', trodAll_mk1 (shut_bool Try.underlying4 _), trodAll_below laidOut bel _ _ _ _ (by kernel_rfl) hAk, rfl, bel.frame _, fun h => by cases h⟩

theorem over : Rows.callRunsRow.holds Try.pinned (OpenSpec.ofChange Rows.callRunsSpec) :=
  OpenClaim.holds_of_wide 8 Try.f8 rfl rfl rfl rfl rfl rfl rfl ⟨rfl, rfl, rfl, rfl, rfl⟩ rfl rfl rfl rfl rfl (by kernel_rfl) Try.func8 (by kernel_rfl)
    (of_decide_eq_true (by kernel_rfl)) (by unfold Func.isWrapper; first | (rw [if_pos (by decide +kernel)]; kernel_rfl) | (rw [if_neg (by decide +kernel)]; exact ⟨rfl, rfl⟩))
    (fun os started H enc _ => lifted os started H enc)

theorem proved : Rows.CallRunsSaid := over
#print axioms proved
end Go.Proofs.Ytpfmjocpgnoepaa.callRuns
