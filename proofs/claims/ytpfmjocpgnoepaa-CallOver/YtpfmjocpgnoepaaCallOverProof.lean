/- What is proved: CallOver of porpoiselaw15 answers true for every input, and leaves its arguments as they were; conditions: those of the given row alone. -/
import Derived.Test.YtpfmjocpgnoepaaKit
import Derived.Test.YtpfmjocpgnoepaaLaw15
import Derived.Deep.DeepCutAuto
namespace Go.Proofs.Ytpfmjocpgnoepaa.callOver
open Go.ChangeShapes Go.WideShapes Go.ChangeAt Go.RowKit Go.Deep
open Go.ChangeMaps (open_string shut_string)
set_option linter.unusedVariables false

theorem own : ownKnob Try.prog.godebug = none := by kernel_rfl
theorem laidOut : laidOutB Try.prog = true := by kernel_rfl



set_option maxRecDepth 100000 in
set_option maxHeartbeats 2000000 in
theorem walk (w : World) (c0 : Array Value) (w0 : Shp w [.row [.int .i64] 8, .row [.int .i64, .int .i64] 16, .lit (.int .i64), .lit (.int .i64), .lit (.int .i64), .lit (.int .u64)] c0.toList) (c1 : Array Value) (w1 : Flat [.int .i64, .int .i64] c1.toList) :
    Calls Try.prog 6 #[.agg c0, .agg c1] w fun e w' => e = .returned (.bool true) ∧ Below w.heap.size w w' := by
  obtain ⟨A, n, k, M, m, d, KN, zs, ms, rfl, hB, hF, hZ⟩ := call_in w0
  obtain ⟨y0, y1, rfl, u0, u1⟩ := Flat.two w1
  have WY := Lib.hid (bounds_i64 u1)
  clear w1 u0 u1
  obtain ⟨W, hW, b0, k0, k1, _⟩ := two_new w (vobj 28 (kvals A n k M m d KN)) (.cells #[.int .i64 y0, .int .i64 y1] 29)
  have HW : Hid ((w.alloc (.cells #[.slice A n k, .slice M m d, .int .i64 KN.st, .int .i64 KN.sp, .int .i64 KN.ca, .int .u64 KN.tm] 28)).alloc (.cells #[.int .i64 y0, .int .i64 y1] 29) = W) := Lib.hid hW
  have K1 := Lib.hid k1
  have K0 := Lib.hid k0
  have B0 := Lib.hid b0
  have HB := Lib.hid hB
  have HF := Lib.hid hF
  clear w0 hW k0 b0 hB hZ hF k1
  go_enter Try.func6, Try.ntmps6
  go_wp2_with fail
  rw [HW.out]
  refine (awake15_any W).mono ?_
  rintro r wa ⟨rfl, ba⟩
  have BA := Lib.hid (B0.out.trans (ba.mono B0.out.size))
  have KA := Lib.hid (kb_below K0.out ba)
  have KA1 := Lib.hid (kb_below K1.out ba)
  obtain ⟨q0, q1, q2, q3, q4, q5⟩ := kobj_cells KA.out
  clear ba HW K0 B0 K1
  go_wp2_with fail
  refine (few15_any A n k M m d wa).mono ?_
  rintro r wb ⟨rfl, bb⟩
  have BB := Lib.hid (BA.out.trans (bb.mono BA.out.size))
  have KB := Lib.hid (kb_below KA.out bb)
  have KB1 := Lib.hid (kb_below KA1.out bb)
  clear q0 q1 q2 q3 q4 q5 bb KA BA KA1
  by_cases hf : n ≤ 50 ∧ m ≤ 50
  case neg =>
    rw [decide_eq_false hf]
    clear hf
    go_wp2
    go_ret
    exact ⟨rfl, BB.out⟩
  case pos =>
    have hn : n ≤ 1000 := by omega
    have hm : m ≤ 1000 := by omega
    rw [decide_eq_true hf]
    clear hf
    go_upto_region 4 with fail
    go_cut [6] (fun vx wq => ∃ (g : Nat) (A2 : Option Addr) (c2 : Nat) (M2 : Option Addr) (d2 : Nat), vx = .pointer (some ⟨g, 0, none⟩) ∧ wb.heap.size ≤ g ∧ wq.heap[g]? = some (kobj A2 n c2 M2 m d2 ⟨1, 0, 0, KN.tm⟩) ∧ Bat wq A2 n c2 M2 m d2 zs ms ∧ Below wb.heap.size wb wq)
    case first =>
      have DW : Hid (Below wb.heap.size wb wb.drew) := Lib.hid (ali_below (drew_ali _))
      have KD : Hid (wb.drew.heap[w.heap.size]? = some (vobj 28 (kvals A n k M m d KN))) := Lib.hid KB.out
      have BD := Lib.hid (BB.out.trans (DW.out.mono BB.out.size))
      generalize hwd : wb.drew = wd at *
      have HWD := Lib.hid hwd
      have HS : Hid (∀ wx, Below wd.heap.size wd wx → wx.cell? ⟨w.heap.size, 0, none⟩ = some (.slice A n k) ∧ wx.cell? ⟨w.heap.size, 1, none⟩ = some (.slice M m d) ∧ wx.cell? ⟨w.heap.size, 2, none⟩ = some (.int .i64 KN.st) ∧ wx.cell? ⟨w.heap.size, 3, none⟩ = some (.int .i64 KN.sp) ∧ wx.cell? ⟨w.heap.size, 4, none⟩ = some (.int .i64 KN.ca) ∧ wx.cell? ⟨w.heap.size, 5, none⟩ = some (.int .u64 KN.tm)) := Lib.hid (fun wx hb => kobj_cells (kb_below KD.out hb))
      have H1 : Hid (∀ wx, Below wd.heap.size wd wx → Calls Try.prog 15 #[callV A n k M m d KN] wx fun r w' => ∃ M' d', r = .returned (callV A n k M' m d' KN) ∧ Bat w' A n k M' m d' zs ms ∧ Below wx.heap.size wx w') := Lib.hid (fun wx hb => made15_any A n k M m d KN zs ms wx (HB.out.below (BD.out.trans (hb.mono BD.out.size))) hm)
      have H5 : Hid (∀ M' d' wx, Bat wx A n k M' m d' zs ms → Calls Try.prog 22 #[batV A n k M' m d', .int .u64 KN.tm] wx fun r w' => ∃ A' c' M2 d2, r = .returned (callV A' n c' M2 m d2 ⟨1, 0, 0, KN.tm⟩) ∧ Bat w' A' n c' M2 m d2 zs ms ∧ (Fresh wx.heap.size A' ∧ Fresh wx.heap.size M2) ∧ Below wx.heap.size wx w') := Lib.hid (fun M' d' wx h => kbegin_is A n k M' m d' zs ms wx KN.tm h hn hm)
      have HFD : ∀ M' d' wx, (Instr.field 36 (callV A n k M' m d' KN) 0).run Try.prog wx = .ok (batV A n k M' m d') wx := fun _ _ _ => by kernel_rfl
      have Lwd : Hid (Below wd.heap.size wd wd) := Lib.hid (Below.refl _ _)
      clear hwd hn hm
      refine wp_region_held_drew (S := fun wx => wx.cell? ⟨w.heap.size, 0, none⟩ = some (.slice A n k) ∧ wx.cell? ⟨w.heap.size, 1, none⟩ = some (.slice M m d) ∧ wx.cell? ⟨w.heap.size, 2, none⟩ = some (.int .i64 KN.st) ∧ wx.cell? ⟨w.heap.size, 3, none⟩ = some (.int .i64 KN.sp) ∧ wx.cell? ⟨w.heap.size, 4, none⟩ = some (.int .i64 KN.ca) ∧ wx.cell? ⟨w.heap.size, 5, none⟩ = some (.int .u64 KN.tm)) (by kernel_rfl) (by rw [HWD.out]; exact HS.out _ Lwd.out) (fun hHeld => ?_)
      rw [HWD.out]
      rw [HWD.out] at hHeld
      refine wpAnyH_take (i := 0) (oi := ⟨_, _, _, _, _, _⟩) (v := ?_) rfl (by kernel_rfl) (by kernel_rfl) (by kernel_rfl) (fun _ _ _ h => h) (Or.inl ⟨by rfl, ?_⟩) (by assumption) ?_
      rotate_left
      · intro w hSw; (try dsimp only at hSw); go_simp; try (with_reducible rfl)
      try go_frame
      refine wpAnyH_take (i := 3) (oi := ⟨_, _, _, _, _, _⟩) (v := ?_) rfl (by kernel_rfl) (by kernel_rfl) (by kernel_rfl) (fun _ _ _ h => h) (Or.inl ⟨by rfl, ?_⟩) (by assumption) ?_
      rotate_left
      · intro w hSw; (try dsimp only at hSw); go_simp; try (with_reducible rfl)
      try go_frame
      refine wpAnyH_take (i := 4) (oi := ⟨_, _, _, _, _, _⟩) (v := ?_) rfl (by kernel_rfl) (by kernel_rfl) (by kernel_rfl) (fun _ _ _ h => h) (Or.inl ⟨by rfl, ?_⟩) (by assumption) ?_
      rotate_left
      · intro w hSw; (try dsimp only at hSw); go_simp; try (with_reducible rfl)
      try go_frame
      refine wpAnyH_ready (rs := [1, 6]) (by kernel_rfl) (by simp) ?_
      refine ready_cons (i := 1) (o := ⟨_, _, _, _, _, _⟩) rfl ?_ (ready_cons (i := 6) (o := ⟨_, _, _, _, _, _⟩) rfl ?_ AllReadyH.nil)
      · intro K hK
        refine call_step (f := 15) (args := #[callV A n k M m d KN]) rfl (by kernel_rfl) ?_
        refine (H1.out wd Lwd.out).mono ?_
        rintro r w1 ⟨M1, d1, rfl, g1, b1⟩
        refine ⟨_, rfl, ?_⟩
        have G1 := Lib.hid g1
        have Lw1 := Lib.hid (Lwd.out.trans (b1.mono Lwd.out.size))
        refine hK.out _ _ (HS.out _ Lw1.out) (fun hHeld => ?_)
        clear hK g1 b1
        try go_frame
        refine wpAnyH_take (i := 2) (oi := ⟨_, _, _, _, _, _⟩) (v := ?_) rfl (by kernel_rfl) (by kernel_rfl) (by kernel_rfl) (fun _ _ _ h => h) (Or.inl ⟨by rfl, ?_⟩) (by assumption) ?_
        rotate_left
        · intro w hSw; (try dsimp only at hSw); go_simp; try (with_reducible rfl)
        try go_frame
        refine wpAnyH_ready (rs := [5, 6]) (by kernel_rfl) (by simp) ?_
        refine ready_cons (i := 5) (o := ⟨_, _, _, _, _, _⟩) rfl ?_ (ready_cons (i := 6) (o := ⟨_, _, _, _, _, _⟩) rfl ?_ AllReadyH.nil)
        · intro K hK
          refine call_step (f := 22) (args := #[batV A n k M1 m d1, .int .u64 KN.tm]) rfl (by kernel_rfl) ?_
          refine (H5.out M1 d1 w1 G1.out).mono ?_
          rintro r w5 ⟨A2, c2, M2, d2, rfl, g5, ⟨fa, fm⟩, b5⟩
          refine ⟨_, rfl, ?_⟩
          have G5 := Lib.hid g5
          have Lw5 := Lib.hid (Lw1.out.trans (b5.mono Lw1.out.size))
          refine hK.out _ _ (HS.out _ Lw5.out) (fun hHeld => ?_)
          clear hK g5 b5 fa fm G1
          try go_frame
          refine wpAnyH_ready (rs := [6]) (by kernel_rfl) (by simp) ?_
          refine ready_cons (i := 6) (o := ⟨_, _, _, _, _, _⟩) rfl ?_ AllReadyH.nil
          intro K hK
          constructor
          go_simp
          have KX : Hid ((w5.alloc (.cells #[.slice none 0 0, .slice none 0 0, .int .i64 0, .int .i64 0, .int .i64 0, .int .u64 0] 36)).heap[w5.heap.size]? = some (kobj none 0 0 none 0 0 ⟨0, 0, 0, 0⟩)) := Lib.hid (heap_alloc_at w5 _)
          have Lw6 : Hid (Below wd.heap.size wd (w5.alloc (.cells #[.slice none 0 0, .slice none 0 0, .int .i64 0, .int .i64 0, .int .i64 0, .int .u64 0] 36))) := Lib.hid (Lw5.out.alloc Lw5.out.size _)
          have GX : Hid (wd.heap.size ≤ w5.heap.size) := Lib.hid Lw5.out.size
          have OF : Hid ((∀ b off, A2 = some ⟨b, off, none⟩ → 0 < n → b ≠ w5.heap.size) ∧ (∀ b off, M2 = some ⟨b, off, none⟩ → 0 < m → b ≠ w5.heap.size)) := Lib.hid ⟨fun b off e h0 => Nat.ne_of_lt (G5.out.ar.lt e h0), fun b off e h0 => Nat.ne_of_lt (G5.out.mr.lt e h0)⟩
          have G6 := Lib.hid (G5.out.below (below_alloc w5 (.cells #[.slice none 0 0, .slice none 0 0, .int .i64 0, .int .i64 0, .int .i64 0, .int .u64 0] 36)))
          have G5 := G6
          clear G6
          refine hK.out _ _ (HS.out _ Lw6.out) (fun hHeld => ?_)
          clear hK
          generalize w5.alloc (.cells #[.slice none 0 0, .slice none 0 0, .int .i64 0, .int .i64 0, .int .i64 0, .int .u64 0] 36) = w6 at *
          generalize hgx : w5.heap.size = g at *
          clear hgx
          try go_frame
          refine wpAnyH_ready (rs := [7]) (by kernel_rfl) (by simp) ?_
          refine ready_cons (i := 7) (o := ⟨_, _, _, _, _, _⟩) rfl ?_ AllReadyH.nil
          intro K hK
          refine store_step rfl 36 _ _ rfl g 0 36 (kvals none 0 0 none 0 0 ⟨0, 0, 0, 0⟩) (kvals A2 n c2 M2 m d2 ⟨1, 0, 0, KN.tm⟩) rfl rfl KX.out (Nat.le_refl _) sizeK (onesK _ _ _ _ _ _ _) ?_
          intro w7 k7 f7 z7
          clear z7
          have K7 := Lib.hid k7
          have F7 := Lib.hid f7
          have L7 : Hid (Below wd.heap.size wd w7) := Lib.hid (Lw6.out.trans (f7.below Lw6.out.size (fun j hj e => by have := GX.out; omega)))
          have H7 : Hid (Bat w7 A2 n c2 M2 m d2 zs ms) := Lib.hid ⟨G5.out.ar.apart f7 (fun b off e h0 hx => OF.out.1 b off e h0 hx), G5.out.mr.apart f7 (fun b off e h0 hx => OF.out.2 b off e h0 hx), G5.out.nc, G5.out.md, G5.out.fits⟩
          refine hK.out _ _ (HS.out _ L7.out) (fun hHeld => ?_)
          clear hK k7 f7
          try go_frame
          refine wpAnyH_done (by kernel_rfl) ?_ _
          go_wp2
          go_meet
          exact ⟨g, A2, c2, M2, d2, rfl, Nat.le_trans DW.out.size GX.out, K7.out, H7.out, DW.out.trans (L7.out.mono DW.out.size)⟩
        · intro K hK
          constructor
          go_simp
          have KX : Hid ((w1.alloc (.cells #[.slice none 0 0, .slice none 0 0, .int .i64 0, .int .i64 0, .int .i64 0, .int .u64 0] 36)).heap[w1.heap.size]? = some (kobj none 0 0 none 0 0 ⟨0, 0, 0, 0⟩)) := Lib.hid (heap_alloc_at w1 _)
          have Lw6 : Hid (Below wd.heap.size wd (w1.alloc (.cells #[.slice none 0 0, .slice none 0 0, .int .i64 0, .int .i64 0, .int .i64 0, .int .u64 0] 36))) := Lib.hid (Lw1.out.alloc Lw1.out.size _)
          have GX : Hid (wd.heap.size ≤ w1.heap.size) := Lib.hid Lw1.out.size
          have G6 := Lib.hid (G1.out.below (below_alloc w1 (.cells #[.slice none 0 0, .slice none 0 0, .int .i64 0, .int .i64 0, .int .i64 0, .int .u64 0] 36)))
          have G1 := G6
          clear G6
          refine hK.out _ _ (HS.out _ Lw6.out) (fun hHeld => ?_)
          clear hK
          generalize w1.alloc (.cells #[.slice none 0 0, .slice none 0 0, .int .i64 0, .int .i64 0, .int .i64 0, .int .u64 0] 36) = w6 at *
          generalize hgx : w1.heap.size = g at *
          clear hgx
          try go_frame
          refine wpAnyH_ready (rs := [5]) (by kernel_rfl) (by simp) ?_
          refine ready_cons (i := 5) (o := ⟨_, _, _, _, _, _⟩) rfl ?_ AllReadyH.nil
          intro K hK
          refine call_step (f := 22) (args := #[batV A n k M1 m d1, .int .u64 KN.tm]) rfl (by kernel_rfl) ?_
          refine (H5.out M1 d1 w6 G1.out).mono ?_
          rintro r w5 ⟨A2, c2, M2, d2, rfl, g5, ⟨fa, fm⟩, b5⟩
          refine ⟨_, rfl, ?_⟩
          have G5 := Lib.hid g5
          have Lw5 := Lib.hid (Lw6.out.trans (b5.mono Lw6.out.size))
          have OF : Hid ((∀ b off, A2 = some ⟨b, off, none⟩ → 0 < n → b ≠ g) ∧ (∀ b off, M2 = some ⟨b, off, none⟩ → 0 < m → b ≠ g)) := Lib.hid ⟨fun b off e _ => by have := fa b off e; have := heap_lt KX.out; omega, fun b off e _ => by have := fm b off e; have := heap_lt KX.out; omega⟩
          have KX1 := Lib.hid (kb_below KX.out b5)
          have KX := KX1
          clear KX1
          refine hK.out _ _ (HS.out _ Lw5.out) (fun hHeld => ?_)
          clear hK g5 b5 fa fm G1
          try go_frame
          refine wpAnyH_ready (rs := [7]) (by kernel_rfl) (by simp) ?_
          refine ready_cons (i := 7) (o := ⟨_, _, _, _, _, _⟩) rfl ?_ AllReadyH.nil
          intro K hK
          refine store_step rfl 36 _ _ rfl g 0 36 (kvals none 0 0 none 0 0 ⟨0, 0, 0, 0⟩) (kvals A2 n c2 M2 m d2 ⟨1, 0, 0, KN.tm⟩) rfl rfl KX.out (Nat.le_refl _) sizeK (onesK _ _ _ _ _ _ _) ?_
          intro w7 k7 f7 z7
          clear z7
          have K7 := Lib.hid k7
          have F7 := Lib.hid f7
          have L7 : Hid (Below wd.heap.size wd w7) := Lib.hid (Lw5.out.trans (f7.below Lw5.out.size (fun j hj e => by have := GX.out; omega)))
          have H7 : Hid (Bat w7 A2 n c2 M2 m d2 zs ms) := Lib.hid ⟨G5.out.ar.apart f7 (fun b off e h0 hx => OF.out.1 b off e h0 hx), G5.out.mr.apart f7 (fun b off e h0 hx => OF.out.2 b off e h0 hx), G5.out.nc, G5.out.md, G5.out.fits⟩
          refine hK.out _ _ (HS.out _ L7.out) (fun hHeld => ?_)
          clear hK k7 f7
          try go_frame
          refine wpAnyH_done (by kernel_rfl) ?_ _
          go_wp2
          go_meet
          exact ⟨g, A2, c2, M2, d2, rfl, Nat.le_trans DW.out.size GX.out, K7.out, H7.out, DW.out.trans (L7.out.mono DW.out.size)⟩
      · intro K hK
        constructor
        go_simp
        have KX : Hid ((wd.alloc (.cells #[.slice none 0 0, .slice none 0 0, .int .i64 0, .int .i64 0, .int .i64 0, .int .u64 0] 36)).heap[wd.heap.size]? = some (kobj none 0 0 none 0 0 ⟨0, 0, 0, 0⟩)) := Lib.hid (heap_alloc_at wd _)
        have Lw6 : Hid (Below wd.heap.size wd (wd.alloc (.cells #[.slice none 0 0, .slice none 0 0, .int .i64 0, .int .i64 0, .int .i64 0, .int .u64 0] 36))) := Lib.hid (Lwd.out.alloc Lwd.out.size _)
        have GX : Hid (wd.heap.size ≤ wd.heap.size) := Lib.hid Lwd.out.size
        refine hK.out _ _ (HS.out _ Lw6.out) (fun hHeld => ?_)
        clear hK
        generalize wd.alloc (.cells #[.slice none 0 0, .slice none 0 0, .int .i64 0, .int .i64 0, .int .i64 0, .int .u64 0] 36) = w6 at *
        obtain ⟨g, hg⟩ : ∃ g, wd.heap.size = g := ⟨_, rfl⟩
        rw [hg] at KX
        clear GX
        have GX : Hid (wd.heap.size ≤ g) := Lib.hid (Nat.le_of_eq hg)
        try rw [hg]
        clear hg
        try go_frame
        refine wpAnyH_ready (rs := [1]) (by kernel_rfl) (by simp) ?_
        refine ready_cons (i := 1) (o := ⟨_, _, _, _, _, _⟩) rfl ?_ AllReadyH.nil
        intro K hK
        refine call_step (f := 15) (args := #[callV A n k M m d KN]) rfl (by kernel_rfl) ?_
        refine (H1.out w6 Lw6.out).mono ?_
        rintro r w1 ⟨M1, d1, rfl, g1, b1⟩
        refine ⟨_, rfl, ?_⟩
        have G1 := Lib.hid g1
        have Lw1 := Lib.hid (Lw6.out.trans (b1.mono Lw6.out.size))
        have KX1 := Lib.hid (kb_below KX.out b1)
        have KX := KX1
        clear KX1
        refine hK.out _ _ (HS.out _ Lw1.out) (fun hHeld => ?_)
        clear hK g1 b1
        try go_frame
        refine wpAnyH_take (i := 2) (oi := ⟨_, _, _, _, _, _⟩) (v := ?_) rfl (by kernel_rfl) (by kernel_rfl) (by kernel_rfl) (fun _ _ _ h => h) (Or.inl ⟨by rfl, ?_⟩) (by assumption) ?_
        rotate_left
        · intro w hSw; (try dsimp only at hSw); go_simp; try (with_reducible rfl)
        try go_frame
        refine wpAnyH_ready (rs := [5]) (by kernel_rfl) (by simp) ?_
        refine ready_cons (i := 5) (o := ⟨_, _, _, _, _, _⟩) rfl ?_ AllReadyH.nil
        intro K hK
        refine call_step (f := 22) (args := #[batV A n k M1 m d1, .int .u64 KN.tm]) rfl (by kernel_rfl) ?_
        refine (H5.out M1 d1 w1 G1.out).mono ?_
        rintro r w5 ⟨A2, c2, M2, d2, rfl, g5, ⟨fa, fm⟩, b5⟩
        refine ⟨_, rfl, ?_⟩
        have G5 := Lib.hid g5
        have Lw5 := Lib.hid (Lw1.out.trans (b5.mono Lw1.out.size))
        have OF : Hid ((∀ b off, A2 = some ⟨b, off, none⟩ → 0 < n → b ≠ g) ∧ (∀ b off, M2 = some ⟨b, off, none⟩ → 0 < m → b ≠ g)) := Lib.hid ⟨fun b off e _ => by have := fa b off e; have := heap_lt KX.out; omega, fun b off e _ => by have := fm b off e; have := heap_lt KX.out; omega⟩
        have KX1 := Lib.hid (kb_below KX.out b5)
        have KX := KX1
        clear KX1
        refine hK.out _ _ (HS.out _ Lw5.out) (fun hHeld => ?_)
        clear hK g5 b5 fa fm G1
        try go_frame
        refine wpAnyH_ready (rs := [7]) (by kernel_rfl) (by simp) ?_
        refine ready_cons (i := 7) (o := ⟨_, _, _, _, _, _⟩) rfl ?_ AllReadyH.nil
        intro K hK
        refine store_step rfl 36 _ _ rfl g 0 36 (kvals none 0 0 none 0 0 ⟨0, 0, 0, 0⟩) (kvals A2 n c2 M2 m d2 ⟨1, 0, 0, KN.tm⟩) rfl rfl KX.out (Nat.le_refl _) sizeK (onesK _ _ _ _ _ _ _) ?_
        intro w7 k7 f7 z7
        clear z7
        have K7 := Lib.hid k7
        have F7 := Lib.hid f7
        have L7 : Hid (Below wd.heap.size wd w7) := Lib.hid (Lw5.out.trans (f7.below Lw5.out.size (fun j hj e => by have := GX.out; omega)))
        have H7 : Hid (Bat w7 A2 n c2 M2 m d2 zs ms) := Lib.hid ⟨G5.out.ar.apart f7 (fun b off e h0 hx => OF.out.1 b off e h0 hx), G5.out.mr.apart f7 (fun b off e h0 hx => OF.out.2 b off e h0 hx), G5.out.nc, G5.out.md, G5.out.fits⟩
        refine hK.out _ _ (HS.out _ L7.out) (fun hHeld => ?_)
        clear hK k7 f7
        try go_frame
        refine wpAnyH_done (by kernel_rfl) ?_ _
        go_wp2
        go_meet
        exact ⟨g, A2, c2, M2, d2, rfl, Nat.le_trans DW.out.size GX.out, K7.out, H7.out, DW.out.trans (L7.out.mono DW.out.size)⟩
    case rest =>
      obtain ⟨g, A2, c2, M2, d2, rfl, hg, hk, hh, hl⟩ := hcut
      have GG := Lib.hid hg
      have KG := Lib.hid hk
      have HG := Lib.hid hh
      have LG := Lib.hid hl
      clear hg hk hh hl
      have NG : Hid (g ≠ w.heap.size ∧ g ≠ w.heap.size + 1) := Lib.hid (by have := heap_lt KB1.out; have := GG.out; omega)
      have L := Lib.hid (BB.out.trans (LG.out.mono BB.out.size))
      have KS := Lib.hid (kb_below KB.out LG.out)
      have KT := Lib.hid (kb_below KB1.out LG.out)
      have SG : Hid (w.heap.size ≤ g) := Lib.hid (Nat.le_trans BB.out.size GG.out)
      clear KB BB LG GG KB1
      have GL0 : Hid (g + 1 ≤ wc.heap.size) := Lib.hid (heap_lt KG.out)
      obtain ⟨x0, x1, x2, x3, x4, x5⟩ := kobj_cells KG.out
      try simp only at x2 x3 x4 x5
      go_wp2_with fail
      clear x0 x1 x2 x3 x4 x5
      refine (kend_is A2 n c2 M2 m d2 ⟨1, 0, 0, KN.tm⟩ ⟨4, 0, 0, KN.tm⟩ true zs ms wc rfl rfl HG.out hn hm).mono ?_
      rintro r v1 ⟨Av1, cv1, Mv1, dv1, rfl, hv1, ⟨fav1, fmv1⟩, bv1⟩
      have Hv1 := Lib.hid hv1
      have Nv1 : Hid (Fresh wc.heap.size Av1 ∧ Fresh wc.heap.size Mv1) := Lib.hid ⟨fav1, fmv1⟩
      have L_ := Lib.hid (L.out.trans (bv1.mono L.out.size))
      have KS_ := Lib.hid (kb_below KS.out bv1)
      have KG_ := Lib.hid (kb_below KG.out bv1)
      have KT_ := Lib.hid (kb_below KT.out bv1)
      have HG_ := Lib.hid (HG.out.below bv1)
      clear L KS KG KT HG
      have L := L_
      have KS := KS_
      have KG := KG_
      have KT := KT_
      have HG := HG_
      clear L_ KS_ KG_ KT_ HG_
      clear hv1 fav1 fmv1 bv1
      have GL := heap_lt KG.out
      go_wp2_with (first
        | (refine wpList_store_agg rfl 36 _ _ rfl g (kvals A2 n c2 M2 m d2 ⟨1, 0, 0, KN.tm⟩) (kvals Av1 n cv1 Mv1 m dv1 ⟨4, 0, 0, KN.tm⟩) rfl rfl ?hz rfl sizeK (onesK _ _ _ _ _ _ _) ?_; (case hz => exact KG.out); intro v2 k5 f5 z5; clear z5;
           have KX := Lib.hid k5; have FX := Lib.hid f5; obtain ⟨x0, x1, x2, x3, x4, x5⟩ := kobj_cells k5; simp only at x2 x3 x4 x5; clear k5 f5))
      have hsg := SG.out
      have L_ := Lib.hid (L.out.trans (FX.out.below L.out.size (fun j hj e => by omega)))
      have HX : Hid (Bat v2 Av1 n cv1 Mv1 m dv1 zs ms) := Lib.hid (Hv1.out.behind (Nv1.out.1.mono GL0.out) (Nv1.out.2.mono GL0.out) FX.out)
      have KS_ : Hid (v2.heap[w.heap.size]? = some (vobj 28 (kvals A n k M m d KN))) := Lib.hid ((FX.out.block _ (heap_lt KS.out) (by have := NG.out; omega)).trans KS.out)
      have KT_ := Lib.hid ((FX.out.block _ (heap_lt KT.out) (by have := NG.out; omega)).trans KT.out)
      clear L KS KT KG HG Hv1 Nv1 FX hsg GL
      have L := L_
      have KS := KS_
      have KT := KT_
      clear L_ KS_ KT_
      clear x0 x1 x2 x3 x4 x5
      refine (krun_is Av1 n cv1 Mv1 m dv1 ⟨4, 0, 0, KN.tm⟩ ⟨4, 0, 0, KN.tm⟩ false zs ms v2 rfl rfl HX.out hn hm).mono ?_
      rintro r v3 ⟨Av3, cv3, Mv3, dv3, rfl, hv3, ⟨fav3, fmv3⟩, bv3⟩
      have Hv3 := Lib.hid hv3
      have Nv3 : Hid (Fresh v2.heap.size Av3 ∧ Fresh v2.heap.size Mv3) := Lib.hid ⟨fav3, fmv3⟩
      have L_ := Lib.hid (L.out.trans (bv3.mono L.out.size))
      have KS_ := Lib.hid (kb_below KS.out bv3)
      have KT_ := Lib.hid (kb_below KT.out bv3)
      have KX_ := Lib.hid (kb_below KX.out bv3)
      have HX_ := Lib.hid (HX.out.below bv3)
      clear L KS KT KX HX
      have L := L_
      have KS := KS_
      have KT := KT_
      have KX := KX_
      have HX := HX_
      clear L_ KS_ KT_ KX_ HX_
      clear hv3 fav3 fmv3 bv3
      go_upto_region 7 with fail
      have KA : Hid ((v3.alloc (.cells #[.slice Av3 n cv3, .slice Mv3 m dv3, .int .i64 4, .int .i64 0, .int .i64 0, .int .u64 KN.tm] 36)).heap[v3.heap.size]? = some (kobj Av3 n cv3 Mv3 m dv3 ⟨4, 0, 0, KN.tm⟩)) := Lib.hid (heap_alloc_at v3 _)
      have bv4 : Below v3.heap.size v3 (v3.alloc (.cells #[.slice Av3 n cv3, .slice Mv3 m dv3, .int .i64 4, .int .i64 0, .int .i64 0, .int .u64 KN.tm] 36)) := below_alloc v3 _
      have L_ := Lib.hid (L.out.trans (bv4.mono L.out.size))
      have KS_ := Lib.hid (kb_below KS.out bv4)
      have KT_ := Lib.hid (kb_below KT.out bv4)
      have KX_ := Lib.hid (kb_below KX.out bv4)
      have HX_ := Lib.hid (HX.out.below bv4)
      have Hv3_ := Lib.hid (Hv3.out.below bv4)
      clear L KS KT KX HX Hv3
      have L := L_
      have KS := KS_
      have KT := KT_
      have KX := KX_
      have HX := HX_
      have Hv3 := Hv3_
      clear L_ KS_ KT_ KX_ HX_ Hv3_
      clear bv4 Nv3
      generalize v3.alloc (.cells #[.slice Av3 n cv3, .slice Mv3 m dv3, .int .i64 4, .int .i64 0, .int .i64 0, .int .u64 KN.tm] 36) = v4 at *
      generalize v3.heap.size = gv3 at *
      obtain ⟨x0, x1, x2, x3, x4, x5⟩ := kobj_cells KX.out
      try simp only at x2 x3 x4 x5
      have t0 : v4.cell? ⟨w.heap.size + 1, 0, none⟩ = some (.int .i64 y0) := by rw [cell_of KT.out]; rfl
      have t1 : v4.cell? ⟨w.heap.size + 1, 1, none⟩ = some (.int .i64 y1) := by rw [cell_of KT.out]; rfl
      go_wp2_with fail
      clear x0 x1 x2 x3 x4 x5 t0 t1
      refine (kfail_is Av1 n cv1 Mv1 m dv1 ⟨4, 0, 0, KN.tm⟩ ⟨4, 0, 0, KN.tm⟩ false zs ms v4 y0 y1 rfl rfl HX.out hn hm (wf64_lit (k := 0) (by decide) (by decide)) WY.out).mono ?_
      rintro r v5 ⟨Av5, cv5, Mv5, dv5, rfl, hv5, ⟨fav5, fmv5⟩, bv5⟩
      have Hv5 := Lib.hid hv5
      have Nv5 : Hid (Fresh v4.heap.size Av5 ∧ Fresh v4.heap.size Mv5) := Lib.hid ⟨fav5, fmv5⟩
      have L_ := Lib.hid (L.out.trans (bv5.mono L.out.size))
      have KS_ := Lib.hid (kb_below KS.out bv5)
      have KT_ := Lib.hid (kb_below KT.out bv5)
      have KX_ := Lib.hid (kb_below KX.out bv5)
      have KA_ := Lib.hid (kb_below KA.out bv5)
      have HX_ := Lib.hid (HX.out.below bv5)
      have Hv3_ := Lib.hid (Hv3.out.below bv5)
      clear L KS KT KX KA HX Hv3
      have L := L_
      have KS := KS_
      have KT := KT_
      have KX := KX_
      have KA := KA_
      have HX := HX_
      have Hv3 := Hv3_
      clear L_ KS_ KT_ KX_ KA_ HX_ Hv3_
      clear hv5 fav5 fmv5 bv5
      go_upto_region 8 with fail
      have KB2 : Hid ((v5.alloc (.cells #[.slice Av5 n cv5, .slice Mv5 m dv5, .int .i64 4, .int .i64 0, .int .i64 0, .int .u64 KN.tm] 36)).heap[v5.heap.size]? = some (kobj Av5 n cv5 Mv5 m dv5 ⟨4, 0, 0, KN.tm⟩)) := Lib.hid (heap_alloc_at v5 _)
      have bv6 : Below v5.heap.size v5 (v5.alloc (.cells #[.slice Av5 n cv5, .slice Mv5 m dv5, .int .i64 4, .int .i64 0, .int .i64 0, .int .u64 KN.tm] 36)) := below_alloc v5 _
      have L_ := Lib.hid (L.out.trans (bv6.mono L.out.size))
      have KS_ := Lib.hid (kb_below KS.out bv6)
      have KT_ := Lib.hid (kb_below KT.out bv6)
      have KX_ := Lib.hid (kb_below KX.out bv6)
      have KA_ := Lib.hid (kb_below KA.out bv6)
      have HX_ := Lib.hid (HX.out.below bv6)
      have Hv3_ := Lib.hid (Hv3.out.below bv6)
      have Hv5_ := Lib.hid (Hv5.out.below bv6)
      clear L KS KT KX KA HX Hv3 Hv5
      have L := L_
      have KS := KS_
      have KT := KT_
      have KX := KX_
      have KA := KA_
      have HX := HX_
      have Hv3 := Hv3_
      have Hv5 := Hv5_
      clear L_ KS_ KT_ KX_ KA_ HX_ Hv3_ Hv5_
      clear bv6 Nv5
      generalize v5.alloc (.cells #[.slice Av5 n cv5, .slice Mv5 m dv5, .int .i64 4, .int .i64 0, .int .i64 0, .int .u64 KN.tm] 36) = v6 at *
      generalize v5.heap.size = gv5 at *
      obtain ⟨x0, x1, x2, x3, x4, x5⟩ := kobj_cells KX.out
      try simp only at x2 x3 x4 x5
      go_wp2_with fail
      clear x0 x1 x2 x3 x4 x5
      refine (kend_is Av1 n cv1 Mv1 m dv1 ⟨4, 0, 0, KN.tm⟩ ⟨4, 0, 0, KN.tm⟩ false zs ms v6 rfl rfl HX.out hn hm).mono ?_
      rintro r v7 ⟨Av7, cv7, Mv7, dv7, rfl, hv7, ⟨fav7, fmv7⟩, bv7⟩
      have Hv7 := Lib.hid hv7
      have Nv7 : Hid (Fresh v6.heap.size Av7 ∧ Fresh v6.heap.size Mv7) := Lib.hid ⟨fav7, fmv7⟩
      have L_ := Lib.hid (L.out.trans (bv7.mono L.out.size))
      have KS_ := Lib.hid (kb_below KS.out bv7)
      have KT_ := Lib.hid (kb_below KT.out bv7)
      have KX_ := Lib.hid (kb_below KX.out bv7)
      have KA_ := Lib.hid (kb_below KA.out bv7)
      have KB2_ := Lib.hid (kb_below KB2.out bv7)
      have HX_ := Lib.hid (HX.out.below bv7)
      have Hv3_ := Lib.hid (Hv3.out.below bv7)
      have Hv5_ := Lib.hid (Hv5.out.below bv7)
      clear L KS KT KX KA KB2 HX Hv3 Hv5
      have L := L_
      have KS := KS_
      have KT := KT_
      have KX := KX_
      have KA := KA_
      have KB2 := KB2_
      have HX := HX_
      have Hv3 := Hv3_
      have Hv5 := Hv5_
      clear L_ KS_ KT_ KX_ KA_ KB2_ HX_ Hv3_ Hv5_
      clear hv7 fav7 fmv7 bv7
      go_upto_region 9 with fail
      have KD : Hid ((v7.alloc (.cells #[.slice Av7 n cv7, .slice Mv7 m dv7, .int .i64 4, .int .i64 0, .int .i64 0, .int .u64 KN.tm] 36)).heap[v7.heap.size]? = some (kobj Av7 n cv7 Mv7 m dv7 ⟨4, 0, 0, KN.tm⟩)) := Lib.hid (heap_alloc_at v7 _)
      have bv8 : Below v7.heap.size v7 (v7.alloc (.cells #[.slice Av7 n cv7, .slice Mv7 m dv7, .int .i64 4, .int .i64 0, .int .i64 0, .int .u64 KN.tm] 36)) := below_alloc v7 _
      have L_ := Lib.hid (L.out.trans (bv8.mono L.out.size))
      have KS_ := Lib.hid (kb_below KS.out bv8)
      have KT_ := Lib.hid (kb_below KT.out bv8)
      have KX_ := Lib.hid (kb_below KX.out bv8)
      have KA_ := Lib.hid (kb_below KA.out bv8)
      have KB2_ := Lib.hid (kb_below KB2.out bv8)
      have HX_ := Lib.hid (HX.out.below bv8)
      have Hv3_ := Lib.hid (Hv3.out.below bv8)
      have Hv5_ := Lib.hid (Hv5.out.below bv8)
      have Hv7_ := Lib.hid (Hv7.out.below bv8)
      clear L KS KT KX KA KB2 HX Hv3 Hv5 Hv7
      have L := L_
      have KS := KS_
      have KT := KT_
      have KX := KX_
      have KA := KA_
      have KB2 := KB2_
      have HX := HX_
      have Hv3 := Hv3_
      have Hv5 := Hv5_
      have Hv7 := Hv7_
      clear L_ KS_ KT_ KX_ KA_ KB2_ HX_ Hv3_ Hv5_ Hv7_
      clear bv8 Nv7
      generalize v7.alloc (.cells #[.slice Av7 n cv7, .slice Mv7 m dv7, .int .i64 4, .int .i64 0, .int .i64 0, .int .u64 KN.tm] 36) = v8 at *
      generalize v7.heap.size = gv7 at *
      obtain ⟨s0, s1, s2, s3, s4, s5⟩ := kobj_cells KS.out
      try simp only at s2 s3 s4 s5
      go_upto_region 10 with fail
      have KW : Hid ((v8.alloc (.cells #[.slice A n k, .slice M m d, .int .i64 4, .int .i64 0, .int .i64 0, .int .u64 KN.tm] 28)).heap[v8.heap.size]? = some (vobj 28 (kvals A n k M m d ⟨4, 0, 0, KN.tm⟩))) := Lib.hid (heap_alloc_at v8 _)
      have bv9 : Below v8.heap.size v8 (v8.alloc (.cells #[.slice A n k, .slice M m d, .int .i64 4, .int .i64 0, .int .i64 0, .int .u64 KN.tm] 28)) := below_alloc v8 _
      clear s0 s1 s2 s3 s4 s5
      have L_ := Lib.hid (L.out.trans (bv9.mono L.out.size))
      have KS_ := Lib.hid (kb_below KS.out bv9)
      have KT_ := Lib.hid (kb_below KT.out bv9)
      have KX_ := Lib.hid (kb_below KX.out bv9)
      have KA_ := Lib.hid (kb_below KA.out bv9)
      have KB2_ := Lib.hid (kb_below KB2.out bv9)
      have KD_ := Lib.hid (kb_below KD.out bv9)
      have HX_ := Lib.hid (HX.out.below bv9)
      have Hv3_ := Lib.hid (Hv3.out.below bv9)
      have Hv5_ := Lib.hid (Hv5.out.below bv9)
      have Hv7_ := Lib.hid (Hv7.out.below bv9)
      clear L KS KT KX KA KB2 KD HX Hv3 Hv5 Hv7
      have L := L_
      have KS := KS_
      have KT := KT_
      have KX := KX_
      have KA := KA_
      have KB2 := KB2_
      have KD := KD_
      have HX := HX_
      have Hv3 := Hv3_
      have Hv5 := Hv5_
      have Hv7 := Hv7_
      clear L_ KS_ KT_ KX_ KA_ KB2_ KD_ HX_ Hv3_ Hv5_ Hv7_
      clear bv9
      generalize v8.alloc (.cells #[.slice A n k, .slice M m d, .int .i64 4, .int .i64 0, .int .i64 0, .int .u64 KN.tm] 28) = v9 at *
      generalize v8.heap.size = gw at *
      obtain ⟨x0, x1, x2, x3, x4, x5⟩ := kobj_cells KA.out
      try simp only at x2 x3 x4 x5
      obtain ⟨y0, y1, y2, y3, y4, y5⟩ := kobj_cells KW.out
      try simp only at y2 y3 y4 y5
      go_wp2_with fail
      clear x0 x1 x2 x3 x4 x5 y0 y1 y2 y3 y4 y5
      refine (same15_any Av3 n cv3 Mv3 m dv3 A k M d ⟨4, 0, 0, KN.tm⟩ zs ms v9 Hv3.out (HB.out.below L.out) hm).mono ?_
      rintro r v10 ⟨rfl, bv10⟩
      have L_ := Lib.hid (L.out.trans (bv10.mono L.out.size))
      have KS_ := Lib.hid (kb_below KS.out bv10)
      have KT_ := Lib.hid (kb_below KT.out bv10)
      have KX_ := Lib.hid (kb_below KX.out bv10)
      have KA_ := Lib.hid (kb_below KA.out bv10)
      have KB2_ := Lib.hid (kb_below KB2.out bv10)
      have KD_ := Lib.hid (kb_below KD.out bv10)
      have KW_ := Lib.hid (kb_below KW.out bv10)
      have HX_ := Lib.hid (HX.out.below bv10)
      have Hv3_ := Lib.hid (Hv3.out.below bv10)
      have Hv5_ := Lib.hid (Hv5.out.below bv10)
      have Hv7_ := Lib.hid (Hv7.out.below bv10)
      clear L KS KT KX KA KB2 KD KW HX Hv3 Hv5 Hv7
      have L := L_
      have KS := KS_
      have KT := KT_
      have KX := KX_
      have KA := KA_
      have KB2 := KB2_
      have KD := KD_
      have KW := KW_
      have HX := HX_
      have Hv3 := Hv3_
      have Hv5 := Hv5_
      have Hv7 := Hv7_
      clear L_ KS_ KT_ KX_ KA_ KB2_ KD_ KW_ HX_ Hv3_ Hv5_ Hv7_
      clear bv10
      obtain ⟨x0, x1, x2, x3, x4, x5⟩ := kobj_cells KB2.out
      try simp only at x2 x3 x4 x5
      obtain ⟨y0, y1, y2, y3, y4, y5⟩ := kobj_cells KW.out
      try simp only at y2 y3 y4 y5
      go_wp2_with fail
      clear x0 x1 x2 x3 x4 x5 y0 y1 y2 y3 y4 y5
      refine (same15_any Av5 n cv5 Mv5 m dv5 A k M d ⟨4, 0, 0, KN.tm⟩ zs ms v10 Hv5.out (HB.out.below L.out) hm).mono ?_
      rintro r v11 ⟨rfl, bv11⟩
      have L_ := Lib.hid (L.out.trans (bv11.mono L.out.size))
      have KS_ := Lib.hid (kb_below KS.out bv11)
      have KT_ := Lib.hid (kb_below KT.out bv11)
      have KX_ := Lib.hid (kb_below KX.out bv11)
      have KA_ := Lib.hid (kb_below KA.out bv11)
      have KB2_ := Lib.hid (kb_below KB2.out bv11)
      have KD_ := Lib.hid (kb_below KD.out bv11)
      have KW_ := Lib.hid (kb_below KW.out bv11)
      have HX_ := Lib.hid (HX.out.below bv11)
      have Hv3_ := Lib.hid (Hv3.out.below bv11)
      have Hv5_ := Lib.hid (Hv5.out.below bv11)
      have Hv7_ := Lib.hid (Hv7.out.below bv11)
      clear L KS KT KX KA KB2 KD KW HX Hv3 Hv5 Hv7
      have L := L_
      have KS := KS_
      have KT := KT_
      have KX := KX_
      have KA := KA_
      have KB2 := KB2_
      have KD := KD_
      have KW := KW_
      have HX := HX_
      have Hv3 := Hv3_
      have Hv5 := Hv5_
      have Hv7 := Hv7_
      clear L_ KS_ KT_ KX_ KA_ KB2_ KD_ KW_ HX_ Hv3_ Hv5_ Hv7_
      clear bv11
      obtain ⟨x0, x1, x2, x3, x4, x5⟩ := kobj_cells KD.out
      try simp only at x2 x3 x4 x5
      obtain ⟨y0, y1, y2, y3, y4, y5⟩ := kobj_cells KW.out
      try simp only at y2 y3 y4 y5
      go_wp2_with fail
      clear x0 x1 x2 x3 x4 x5 y0 y1 y2 y3 y4 y5
      refine (same15_any Av7 n cv7 Mv7 m dv7 A k M d ⟨4, 0, 0, KN.tm⟩ zs ms v11 Hv7.out (HB.out.below L.out) hm).mono ?_
      rintro r v12 ⟨rfl, bv12⟩
      have L_ := Lib.hid (L.out.trans (bv12.mono L.out.size))
      have KS_ := Lib.hid (kb_below KS.out bv12)
      have KT_ := Lib.hid (kb_below KT.out bv12)
      have KX_ := Lib.hid (kb_below KX.out bv12)
      have KA_ := Lib.hid (kb_below KA.out bv12)
      have KB2_ := Lib.hid (kb_below KB2.out bv12)
      have KD_ := Lib.hid (kb_below KD.out bv12)
      have KW_ := Lib.hid (kb_below KW.out bv12)
      have HX_ := Lib.hid (HX.out.below bv12)
      have Hv3_ := Lib.hid (Hv3.out.below bv12)
      have Hv5_ := Lib.hid (Hv5.out.below bv12)
      have Hv7_ := Lib.hid (Hv7.out.below bv12)
      clear L KS KT KX KA KB2 KD KW HX Hv3 Hv5 Hv7
      have L := L_
      have KS := KS_
      have KT := KT_
      have KX := KX_
      have KA := KA_
      have KB2 := KB2_
      have KD := KD_
      have KW := KW_
      have HX := HX_
      have Hv3 := Hv3_
      have Hv5 := Hv5_
      have Hv7 := Hv7_
      clear L_ KS_ KT_ KX_ KA_ KB2_ KD_ KW_ HX_ Hv3_ Hv5_ Hv7_
      clear bv12
      go_wp2
      go_ret
      exact ⟨rfl, L.out⟩

set_option maxRecDepth 100000 in
theorem lifted (os : Os) (started : os.Started) (H : Type) (enc : TypeId × Value → H) :
    ReturnsInHanded {} Try.checked os 6 .any (Rows.callOverSpec.pre6 enc Try.prog Try.f6 Rows.callOverRow.domain false) (Rows.callOverSpec.post enc Try.prog Try.f6 false true false false) := by
  refine returnsInHanded_of_change_sized (C := Try.checked) own started (by kernel_rfl) Try.func6
    (ChangeSpec.witness6 (enc := enc) (C := Try.checked) false ⟨#[], #[.agg #[.slice none 0 0, .slice none 0 0, .int .i64 0, .int .i64 0, .int .i64 0, .int .u64 0], .agg #[.int .i64 0, .int .i64 0]], []⟩ 8 (by kernel_rfl) (by kernel_rfl) (by kernel_rfl) (by kernel_rfl)) ?_
  intro W base args ds gs before hval0 hW hcnd hsz0 _
  have hval : ∀ (j : Nat) t v, Try.f6.params[j]? = some t → args[j]? = some v → Value.okWide Try.prog W .any base t v := hval0
  have hsz : (DataW.weightsEach Try.prog (Try.f6.params.toList ++ Rows.callOverSpec.plain.varTypes Try.prog) (ds ++ gs)).all (· ≤ reachBytes) = true := hsz0
  have hW' := hW
  obtain ⟨p, q, hA0, hV, rfl, hfz, hnd⟩ := hW
  have hA : DataW.TrodAll enc Try.prog W 0 (fun _ => true) true Try.f6.params.toList args.toList ds p := hA0
  rw [Try.params6] at hA hval hsz
  have hAk := hA
  obtain ⟨v0, vs0, d0, ds0, p0, q0, hargs, rfl, rfl, h0, r0⟩ := trodAll_cons hA
  obtain ⟨v1, vs1, d1, ds1, p1, q1, rfl, rfl, rfl, h1, r1⟩ := trodAll_cons r0
  obtain ⟨rfl, rfl, rfl⟩ := trodAll_nil r1
  obtain rfl : args = #[v0, v1] := by cases args; simp_all
  obtain ⟨rfl, rfl⟩ := trodVars_none hV
  obtain ⟨c0, rfl, w0⟩ := open_shape (ss := [.row [.int .i64] 8, .row [.int .i64, .int .i64] 16, .lit (.int .i64), .lit (.int .i64), .lit (.int .i64), .lit (.int .u64)]) 8 (by kernel_rfl) (by kernel_rfl) (hval 0 28 v0 rfl rfl) h0 hsz 0 rfl rfl
  obtain ⟨c1, rfl, w1⟩ := open_flat (ks := [.int .i64, .int .i64]) 8 (by kernel_rfl) (by kernel_rfl) (hval 1 29 v1 rfl rfl) h1
  clear hA0 hval0 hsz0
  refine (walk W c0 w0 c1 w1).mono fun e W' ⟨he, bel⟩ => ?_
  subst he
  exact ⟨_, rfl, _, _, _, [], _, [], hW', trodAll_mk1 (shut_bool Try.underlying4 _), trodAll_below laidOut bel _ _ _ _ (by kernel_rfl) hAk, rfl, bel.frame _, fun h => by cases h⟩

theorem over : Rows.callOverRow.holds Try.pinned (OpenSpec.ofChange Rows.callOverSpec) :=
  OpenClaim.holds_of_wide 6 Try.f6 rfl rfl rfl rfl rfl rfl rfl ⟨rfl, rfl, rfl, rfl, rfl⟩ rfl rfl rfl rfl rfl (by kernel_rfl) Try.func6 (by kernel_rfl)
    (of_decide_eq_true (by kernel_rfl)) (by unfold Func.isWrapper; first | (rw [if_pos (by decide +kernel)]; kernel_rfl) | (rw [if_neg (by decide +kernel)]; exact ⟨rfl, rfl⟩))
    (fun os started H enc _ => lifted os started H enc)

theorem proved : Rows.CallOverSaid := over
#print axioms proved
end Go.Proofs.Ytpfmjocpgnoepaa.callOver
