/- What is proved: CallEnds of porpoiselaw15 answers true for every input, and leaves its arguments as they were; conditions: those of the given row alone. -/
import Derived.Test.YtpfmjocpgnoepaaKit
import Derived.Test.YtpfmjocpgnoepaaLaw15
import Derived.Deep.DeepCutAuto
namespace Go.Proofs.Ytpfmjocpgnoepaa.callEnds
open Go.ChangeShapes Go.WideShapes Go.ChangeAt Go.RowKit Go.Deep
open Go.ChangeMaps (open_string shut_string)
set_option linter.unusedVariables false

theorem own : ownKnob Try.prog.godebug = none := by kernel_rfl
theorem laidOut : laidOutB Try.prog = true := by kernel_rfl



set_option maxRecDepth 100000 in
set_option maxHeartbeats 2000000 in
theorem walk (w : World) (c0 : Array Value) (w0 : Shp w [.row [.int .i64] 8, .row [.int .i64, .int .i64] 16, .lit (.int .i64), .lit (.int .i64), .lit (.int .i64), .lit (.int .u64)] c0.toList) (a1 : Int) (w1 : (Lit.int .u8 a1).wf = true) (a2 : Option Addr) (l2 k2 : Nat) (L2 : List (List Value)) (w2 : SliceIn w [.int .i64] 8 a2 l2 k2 L2) :
    Calls Try.prog 5 #[.agg c0, .int .u8 a1, .slice a2 l2 k2] w fun e w' => e = .returned (.bool true) ∧ Below w.heap.size w w' := by
  obtain ⟨A, n, k, M, m, d, KN, zs, ms, rfl, hB, hF, hZ⟩ := call_in w0
  obtain ⟨vs, hv, hvf, _, _⟩ := ints_in w2
  have hch0 := (bounds_u8 w1).1
  obtain ⟨ch, hch⟩ : ∃ ch : Nat, a1 = (ch : Int) := ⟨a1.toNat, by omega⟩
  subst hch
  obtain ⟨N, hN⟩ : ∃ N, ch % 20 = N := ⟨_, rfl⟩
  have hN0 : N < 20 := by rw [← hN]; exact Nat.mod_lt _ (by decide)
  have hN1 : (ch : Int).tmod 20 = (N : Int) := by rw [Int.tmod_eq_emod_of_nonneg (by omega)]; omega
  have hN2 : wrap64 (N : Int) = (N : Int) := by unfold wrap64; omega
  have HN0 := Lib.hid hN0
  have HV := Lib.hid hv
  have NW : Hid (wf64 (N : Int)) := Lib.hid ⟨by omega, by omega⟩
  clear hv hvf hN hN0 w1 w2 hch0
  obtain ⟨W, hW⟩ : ∃ W, w.alloc (.cells #[.slice A n k, .slice M m d, .int .i64 KN.st, .int .i64 KN.sp, .int .i64 KN.ca, .int .u64 KN.tm] 28) = W := ⟨_, rfl⟩
  have HW := Lib.hid hW
  have k0 : W.heap[w.heap.size]? = some (vobj 28 (kvals A n k M m d KN)) := by rw [← hW]; exact heap_alloc_at w (vobj 28 (kvals A n k M m d KN))
  have b0 : Below w.heap.size w W := by rw [← hW]; exact below_alloc w _
  have K0 := Lib.hid k0
  have B0 := Lib.hid b0
  have HB := Lib.hid hB
  have HF := Lib.hid hF
  clear w0 hW k0 b0 hB hZ hF
  go_enter Try.func5, Try.ntmps5
  go_wp2_with fail
  rw [HW.out]
  refine (awake15_any W).mono ?_
  rintro r wa ⟨rfl, ba⟩
  have BA := Lib.hid (B0.out.trans (ba.mono B0.out.size))
  have KA := Lib.hid (kb_below K0.out ba)
  obtain ⟨q0, q1, q2, q3, q4, q5⟩ := kobj_cells KA.out
  clear ba HW K0 B0
  go_wp2_with fail
  refine (few15_any A n k M m d wa).mono ?_
  rintro r wb ⟨rfl, bb⟩
  have BB := Lib.hid (BA.out.trans (bb.mono BA.out.size))
  have KB := Lib.hid (kb_below KA.out bb)
  clear q0 q1 q2 q3 q4 q5 bb KA BA
  by_cases hf : n ≤ 50 ∧ m ≤ 50
  case neg =>
    rw [decide_eq_false hf]
    clear hf
    go_wp2
    go_ret
    exact ⟨rfl, BB.out⟩
  case pos =>
    have hn : n ≤ 1000 := by omega
    have hm : m ≤ 1000 := by omega
    rw [decide_eq_true hf]
    clear hf
    go_upto_region 5 with fail
    rw [hN2]
    clear hN1 hN2
    go_cut [9] (fun vx wq => ∃ (g : Nat) (A2 : Option Addr) (c2 : Nat) (M2 : Option Addr) (d2 : Nat), vx = .pointer (some ⟨g, 0, none⟩) ∧ wb.heap.size ≤ g ∧ wq.heap[g]? = some (kobj A2 n c2 M2 m d2 ⟨1, 0, 0, KN.tm⟩) ∧ Bat wq A2 n c2 M2 m d2 zs ms ∧ Below wb.heap.size wb wq)
    case first =>
      have DW : Hid (Below wb.heap.size wb wb.drew) := Lib.hid (ali_below (drew_ali _))
      have KD : Hid (wb.drew.heap[w.heap.size]? = some (vobj 28 (kvals A n k M m d KN))) := Lib.hid KB.out
      have BD := Lib.hid (BB.out.trans (DW.out.mono BB.out.size))
      generalize hwd : wb.drew = wd at *
      have HWD := Lib.hid hwd
      have HS : Hid (∀ wx, Below wd.heap.size wd wx → wx.cell? ⟨w.heap.size, 0, none⟩ = some (.slice A n k) ∧ wx.cell? ⟨w.heap.size, 1, none⟩ = some (.slice M m d) ∧ wx.cell? ⟨w.heap.size, 2, none⟩ = some (.int .i64 KN.st) ∧ wx.cell? ⟨w.heap.size, 3, none⟩ = some (.int .i64 KN.sp) ∧ wx.cell? ⟨w.heap.size, 4, none⟩ = some (.int .i64 KN.ca) ∧ wx.cell? ⟨w.heap.size, 5, none⟩ = some (.int .u64 KN.tm)) := Lib.hid (fun wx hb => kobj_cells (kb_below KD.out hb))
      have H1 : Hid (∀ wx, Below wd.heap.size wd wx → Calls Try.prog 15 #[callV A n k M m d KN] wx fun r w' => ∃ M' d', r = .returned (callV A n k M' m d' KN) ∧ Bat w' A n k M' m d' zs ms ∧ Below wx.heap.size wx w') := Lib.hid (fun wx hb => made15_any A n k M m d KN zs ms wx (HB.out.below (BD.out.trans (hb.mono BD.out.size))) hm)
      have H5 : Hid (∀ M' d' wx, Bat wx A n k M' m d' zs ms → Calls Try.prog 22 #[batV A n k M' m d', .int .u64 KN.tm] wx fun r w' => ∃ A' c' M2 d2, r = .returned (callV A' n c' M2 m d2 ⟨1, 0, 0, KN.tm⟩) ∧ Bat w' A' n c' M2 m d2 zs ms ∧ (Fresh wx.heap.size A' ∧ Fresh wx.heap.size M2) ∧ Below wx.heap.size wx w') := Lib.hid (fun M' d' wx h => kbegin_is A n k M' m d' zs ms wx KN.tm h hn hm)
      have HFD : ∀ M' d' wx, (Instr.field 36 (callV A n k M' m d' KN) 0).run Try.prog wx = .ok (batV A n k M' m d') wx := fun _ _ _ => by kernel_rfl
      have Lwd : Hid (Below wd.heap.size wd wd) := Lib.hid (Below.refl _ _)
      clear hwd hn hm
      refine wp_region_held_drew (S := fun wx => wx.cell? ⟨w.heap.size, 0, none⟩ = some (.slice A n k) ∧ wx.cell? ⟨w.heap.size, 1, none⟩ = some (.slice M m d) ∧ wx.cell? ⟨w.heap.size, 2, none⟩ = some (.int .i64 KN.st) ∧ wx.cell? ⟨w.heap.size, 3, none⟩ = some (.int .i64 KN.sp) ∧ wx.cell? ⟨w.heap.size, 4, none⟩ = some (.int .i64 KN.ca) ∧ wx.cell? ⟨w.heap.size, 5, none⟩ = some (.int .u64 KN.tm)) (by kernel_rfl) (by rw [HWD.out]; exact HS.out _ Lwd.out) (fun hHeld => ?_)
      rw [HWD.out]
      rw [HWD.out] at hHeld
      refine wpAnyH_take (i := 0) (oi := ⟨_, _, _, _, _, _⟩) (v := ?_) rfl (by kernel_rfl) (by kernel_rfl) (by kernel_rfl) (fun _ _ _ h => h) (Or.inl ⟨by rfl, ?_⟩) (by assumption) ?_
      rotate_left
      · intro w hSw; (try dsimp only at hSw); go_simp; try (with_reducible rfl)
      try go_frame
      refine wpAnyH_take (i := 3) (oi := ⟨_, _, _, _, _, _⟩) (v := ?_) rfl (by kernel_rfl) (by kernel_rfl) (by kernel_rfl) (fun _ _ _ h => h) (Or.inl ⟨by rfl, ?_⟩) (by assumption) ?_
      rotate_left
      · intro w hSw; (try dsimp only at hSw); go_simp; try (with_reducible rfl)
      try go_frame
      refine wpAnyH_take (i := 4) (oi := ⟨_, _, _, _, _, _⟩) (v := ?_) rfl (by kernel_rfl) (by kernel_rfl) (by kernel_rfl) (fun _ _ _ h => h) (Or.inl ⟨by rfl, ?_⟩) (by assumption) ?_
      rotate_left
      · intro w hSw; (try dsimp only at hSw); go_simp; try (with_reducible rfl)
      try go_frame
      refine wpAnyH_ready (rs := [1, 6]) (by kernel_rfl) (by simp) ?_
      refine ready_cons (i := 1) (o := ⟨_, _, _, _, _, _⟩) rfl ?_ (ready_cons (i := 6) (o := ⟨_, _, _, _, _, _⟩) rfl ?_ AllReadyH.nil)
      · intro K hK
        refine call_step (f := 15) (args := #[callV A n k M m d KN]) rfl (by kernel_rfl) ?_
        refine (H1.out wd Lwd.out).mono ?_
        rintro r w1 ⟨M1, d1, rfl, g1, b1⟩
        refine ⟨_, rfl, ?_⟩
        have G1 := Lib.hid g1
        have Lw1 := Lib.hid (Lwd.out.trans (b1.mono Lwd.out.size))
        refine hK.out _ _ (HS.out _ Lw1.out) (fun hHeld => ?_)
        clear hK g1 b1
        try go_frame
        refine wpAnyH_take (i := 2) (oi := ⟨_, _, _, _, _, _⟩) (v := ?_) rfl (by kernel_rfl) (by kernel_rfl) (by kernel_rfl) (fun _ _ _ h => h) (Or.inl ⟨by rfl, ?_⟩) (by assumption) ?_
        rotate_left
        · intro w hSw; (try dsimp only at hSw); go_simp; try (with_reducible rfl)
        try go_frame
        refine wpAnyH_ready (rs := [5, 6]) (by kernel_rfl) (by simp) ?_
        refine ready_cons (i := 5) (o := ⟨_, _, _, _, _, _⟩) rfl ?_ (ready_cons (i := 6) (o := ⟨_, _, _, _, _, _⟩) rfl ?_ AllReadyH.nil)
        · intro K hK
          refine call_step (f := 22) (args := #[batV A n k M1 m d1, .int .u64 KN.tm]) rfl (by kernel_rfl) ?_
          refine (H5.out M1 d1 w1 G1.out).mono ?_
          rintro r w5 ⟨A2, c2, M2, d2, rfl, g5, ⟨fa, fm⟩, b5⟩
          refine ⟨_, rfl, ?_⟩
          have G5 := Lib.hid g5
          have Lw5 := Lib.hid (Lw1.out.trans (b5.mono Lw1.out.size))
          refine hK.out _ _ (HS.out _ Lw5.out) (fun hHeld => ?_)
          clear hK g5 b5 fa fm G1
          try go_frame
          refine wpAnyH_ready (rs := [6]) (by kernel_rfl) (by simp) ?_
          refine ready_cons (i := 6) (o := ⟨_, _, _, _, _, _⟩) rfl ?_ AllReadyH.nil
          intro K hK
          constructor
          go_simp
          have KX : Hid ((w5.alloc (.cells #[.slice none 0 0, .slice none 0 0, .int .i64 0, .int .i64 0, .int .i64 0, .int .u64 0] 36)).heap[w5.heap.size]? = some (kobj none 0 0 none 0 0 ⟨0, 0, 0, 0⟩)) := Lib.hid (heap_alloc_at w5 _)
          have Lw6 : Hid (Below wd.heap.size wd (w5.alloc (.cells #[.slice none 0 0, .slice none 0 0, .int .i64 0, .int .i64 0, .int .i64 0, .int .u64 0] 36))) := Lib.hid (Lw5.out.alloc Lw5.out.size _)
          have GX : Hid (wd.heap.size ≤ w5.heap.size) := Lib.hid Lw5.out.size
          have OF : Hid ((∀ b off, A2 = some ⟨b, off, none⟩ → 0 < n → b ≠ w5.heap.size) ∧ (∀ b off, M2 = some ⟨b, off, none⟩ → 0 < m → b ≠ w5.heap.size)) := Lib.hid ⟨fun b off e h0 => Nat.ne_of_lt (G5.out.ar.lt e h0), fun b off e h0 => Nat.ne_of_lt (G5.out.mr.lt e h0)⟩
          have G6 := Lib.hid (G5.out.below (below_alloc w5 (.cells #[.slice none 0 0, .slice none 0 0, .int .i64 0, .int .i64 0, .int .i64 0, .int .u64 0] 36)))
          have G5 := G6
          clear G6
          refine hK.out _ _ (HS.out _ Lw6.out) (fun hHeld => ?_)
          clear hK
          generalize w5.alloc (.cells #[.slice none 0 0, .slice none 0 0, .int .i64 0, .int .i64 0, .int .i64 0, .int .u64 0] 36) = w6 at *
          generalize hgx : w5.heap.size = g at *
          clear hgx
          try go_frame
          refine wpAnyH_ready (rs := [7]) (by kernel_rfl) (by simp) ?_
          refine ready_cons (i := 7) (o := ⟨_, _, _, _, _, _⟩) rfl ?_ AllReadyH.nil
          intro K hK
          refine store_step rfl 36 _ _ rfl g 0 36 (kvals none 0 0 none 0 0 ⟨0, 0, 0, 0⟩) (kvals A2 n c2 M2 m d2 ⟨1, 0, 0, KN.tm⟩) rfl rfl KX.out (Nat.le_refl _) sizeK (onesK _ _ _ _ _ _ _) ?_
          intro w7 k7 f7 z7
          clear z7
          have K7 := Lib.hid k7
          have F7 := Lib.hid f7
          have L7 : Hid (Below wd.heap.size wd w7) := Lib.hid (Lw6.out.trans (f7.below Lw6.out.size (fun j hj e => by have := GX.out; omega)))
          have H7 : Hid (Bat w7 A2 n c2 M2 m d2 zs ms) := Lib.hid ⟨G5.out.ar.apart f7 (fun b off e h0 hx => OF.out.1 b off e h0 hx), G5.out.mr.apart f7 (fun b off e h0 hx => OF.out.2 b off e h0 hx), G5.out.nc, G5.out.md, G5.out.fits⟩
          refine hK.out _ _ (HS.out _ L7.out) (fun hHeld => ?_)
          clear hK k7 f7
          try go_frame
          refine wpAnyH_done (by kernel_rfl) ?_ _
          go_wp2
          go_meet
          exact ⟨g, A2, c2, M2, d2, rfl, Nat.le_trans DW.out.size GX.out, K7.out, H7.out, DW.out.trans (L7.out.mono DW.out.size)⟩
        · intro K hK
          constructor
          go_simp
          have KX : Hid ((w1.alloc (.cells #[.slice none 0 0, .slice none 0 0, .int .i64 0, .int .i64 0, .int .i64 0, .int .u64 0] 36)).heap[w1.heap.size]? = some (kobj none 0 0 none 0 0 ⟨0, 0, 0, 0⟩)) := Lib.hid (heap_alloc_at w1 _)
          have Lw6 : Hid (Below wd.heap.size wd (w1.alloc (.cells #[.slice none 0 0, .slice none 0 0, .int .i64 0, .int .i64 0, .int .i64 0, .int .u64 0] 36))) := Lib.hid (Lw1.out.alloc Lw1.out.size _)
          have GX : Hid (wd.heap.size ≤ w1.heap.size) := Lib.hid Lw1.out.size
          have G6 := Lib.hid (G1.out.below (below_alloc w1 (.cells #[.slice none 0 0, .slice none 0 0, .int .i64 0, .int .i64 0, .int .i64 0, .int .u64 0] 36)))
          have G1 := G6
          clear G6
          refine hK.out _ _ (HS.out _ Lw6.out) (fun hHeld => ?_)
          clear hK
          generalize w1.alloc (.cells #[.slice none 0 0, .slice none 0 0, .int .i64 0, .int .i64 0, .int .i64 0, .int .u64 0] 36) = w6 at *
          generalize hgx : w1.heap.size = g at *
          clear hgx
          try go_frame
          refine wpAnyH_ready (rs := [5]) (by kernel_rfl) (by simp) ?_
          refine ready_cons (i := 5) (o := ⟨_, _, _, _, _, _⟩) rfl ?_ AllReadyH.nil
          intro K hK
          refine call_step (f := 22) (args := #[batV A n k M1 m d1, .int .u64 KN.tm]) rfl (by kernel_rfl) ?_
          refine (H5.out M1 d1 w6 G1.out).mono ?_
          rintro r w5 ⟨A2, c2, M2, d2, rfl, g5, ⟨fa, fm⟩, b5⟩
          refine ⟨_, rfl, ?_⟩
          have G5 := Lib.hid g5
          have Lw5 := Lib.hid (Lw6.out.trans (b5.mono Lw6.out.size))
          have OF : Hid ((∀ b off, A2 = some ⟨b, off, none⟩ → 0 < n → b ≠ g) ∧ (∀ b off, M2 = some ⟨b, off, none⟩ → 0 < m → b ≠ g)) := Lib.hid ⟨fun b off e _ => by have := fa b off e; have := heap_lt KX.out; omega, fun b off e _ => by have := fm b off e; have := heap_lt KX.out; omega⟩
          have KX1 := Lib.hid (kb_below KX.out b5)
          have KX := KX1
          clear KX1
          refine hK.out _ _ (HS.out _ Lw5.out) (fun hHeld => ?_)
          clear hK g5 b5 fa fm G1
          try go_frame
          refine wpAnyH_ready (rs := [7]) (by kernel_rfl) (by simp) ?_
          refine ready_cons (i := 7) (o := ⟨_, _, _, _, _, _⟩) rfl ?_ AllReadyH.nil
          intro K hK
          refine store_step rfl 36 _ _ rfl g 0 36 (kvals none 0 0 none 0 0 ⟨0, 0, 0, 0⟩) (kvals A2 n c2 M2 m d2 ⟨1, 0, 0, KN.tm⟩) rfl rfl KX.out (Nat.le_refl _) sizeK (onesK _ _ _ _ _ _ _) ?_
          intro w7 k7 f7 z7
          clear z7
          have K7 := Lib.hid k7
          have F7 := Lib.hid f7
          have L7 : Hid (Below wd.heap.size wd w7) := Lib.hid (Lw5.out.trans (f7.below Lw5.out.size (fun j hj e => by have := GX.out; omega)))
          have H7 : Hid (Bat w7 A2 n c2 M2 m d2 zs ms) := Lib.hid ⟨G5.out.ar.apart f7 (fun b off e h0 hx => OF.out.1 b off e h0 hx), G5.out.mr.apart f7 (fun b off e h0 hx => OF.out.2 b off e h0 hx), G5.out.nc, G5.out.md, G5.out.fits⟩
          refine hK.out _ _ (HS.out _ L7.out) (fun hHeld => ?_)
          clear hK k7 f7
          try go_frame
          refine wpAnyH_done (by kernel_rfl) ?_ _
          go_wp2
          go_meet
          exact ⟨g, A2, c2, M2, d2, rfl, Nat.le_trans DW.out.size GX.out, K7.out, H7.out, DW.out.trans (L7.out.mono DW.out.size)⟩
      · intro K hK
        constructor
        go_simp
        have KX : Hid ((wd.alloc (.cells #[.slice none 0 0, .slice none 0 0, .int .i64 0, .int .i64 0, .int .i64 0, .int .u64 0] 36)).heap[wd.heap.size]? = some (kobj none 0 0 none 0 0 ⟨0, 0, 0, 0⟩)) := Lib.hid (heap_alloc_at wd _)
        have Lw6 : Hid (Below wd.heap.size wd (wd.alloc (.cells #[.slice none 0 0, .slice none 0 0, .int .i64 0, .int .i64 0, .int .i64 0, .int .u64 0] 36))) := Lib.hid (Lwd.out.alloc Lwd.out.size _)
        have GX : Hid (wd.heap.size ≤ wd.heap.size) := Lib.hid Lwd.out.size
        refine hK.out _ _ (HS.out _ Lw6.out) (fun hHeld => ?_)
        clear hK
        generalize wd.alloc (.cells #[.slice none 0 0, .slice none 0 0, .int .i64 0, .int .i64 0, .int .i64 0, .int .u64 0] 36) = w6 at *
        obtain ⟨g, hg⟩ : ∃ g, wd.heap.size = g := ⟨_, rfl⟩
        rw [hg] at KX
        clear GX
        have GX : Hid (wd.heap.size ≤ g) := Lib.hid (Nat.le_of_eq hg)
        try rw [hg]
        clear hg
        try go_frame
        refine wpAnyH_ready (rs := [1]) (by kernel_rfl) (by simp) ?_
        refine ready_cons (i := 1) (o := ⟨_, _, _, _, _, _⟩) rfl ?_ AllReadyH.nil
        intro K hK
        refine call_step (f := 15) (args := #[callV A n k M m d KN]) rfl (by kernel_rfl) ?_
        refine (H1.out w6 Lw6.out).mono ?_
        rintro r w1 ⟨M1, d1, rfl, g1, b1⟩
        refine ⟨_, rfl, ?_⟩
        have G1 := Lib.hid g1
        have Lw1 := Lib.hid (Lw6.out.trans (b1.mono Lw6.out.size))
        have KX1 := Lib.hid (kb_below KX.out b1)
        have KX := KX1
        clear KX1
        refine hK.out _ _ (HS.out _ Lw1.out) (fun hHeld => ?_)
        clear hK g1 b1
        try go_frame
        refine wpAnyH_take (i := 2) (oi := ⟨_, _, _, _, _, _⟩) (v := ?_) rfl (by kernel_rfl) (by kernel_rfl) (by kernel_rfl) (fun _ _ _ h => h) (Or.inl ⟨by rfl, ?_⟩) (by assumption) ?_
        rotate_left
        · intro w hSw; (try dsimp only at hSw); go_simp; try (with_reducible rfl)
        try go_frame
        refine wpAnyH_ready (rs := [5]) (by kernel_rfl) (by simp) ?_
        refine ready_cons (i := 5) (o := ⟨_, _, _, _, _, _⟩) rfl ?_ AllReadyH.nil
        intro K hK
        refine call_step (f := 22) (args := #[batV A n k M1 m d1, .int .u64 KN.tm]) rfl (by kernel_rfl) ?_
        refine (H5.out M1 d1 w1 G1.out).mono ?_
        rintro r w5 ⟨A2, c2, M2, d2, rfl, g5, ⟨fa, fm⟩, b5⟩
        refine ⟨_, rfl, ?_⟩
        have G5 := Lib.hid g5
        have Lw5 := Lib.hid (Lw1.out.trans (b5.mono Lw1.out.size))
        have OF : Hid ((∀ b off, A2 = some ⟨b, off, none⟩ → 0 < n → b ≠ g) ∧ (∀ b off, M2 = some ⟨b, off, none⟩ → 0 < m → b ≠ g)) := Lib.hid ⟨fun b off e _ => by have := fa b off e; have := heap_lt KX.out; omega, fun b off e _ => by have := fm b off e; have := heap_lt KX.out; omega⟩
        have KX1 := Lib.hid (kb_below KX.out b5)
        have KX := KX1
        clear KX1
        refine hK.out _ _ (HS.out _ Lw5.out) (fun hHeld => ?_)
        clear hK g5 b5 fa fm G1
        try go_frame
        refine wpAnyH_ready (rs := [7]) (by kernel_rfl) (by simp) ?_
        refine ready_cons (i := 7) (o := ⟨_, _, _, _, _, _⟩) rfl ?_ AllReadyH.nil
        intro K hK
        refine store_step rfl 36 _ _ rfl g 0 36 (kvals none 0 0 none 0 0 ⟨0, 0, 0, 0⟩) (kvals A2 n c2 M2 m d2 ⟨1, 0, 0, KN.tm⟩) rfl rfl KX.out (Nat.le_refl _) sizeK (onesK _ _ _ _ _ _ _) ?_
        intro w7 k7 f7 z7
        clear z7
        have K7 := Lib.hid k7
        have F7 := Lib.hid f7
        have L7 : Hid (Below wd.heap.size wd w7) := Lib.hid (Lw5.out.trans (f7.below Lw5.out.size (fun j hj e => by have := GX.out; omega)))
        have H7 : Hid (Bat w7 A2 n c2 M2 m d2 zs ms) := Lib.hid ⟨G5.out.ar.apart f7 (fun b off e h0 hx => OF.out.1 b off e h0 hx), G5.out.mr.apart f7 (fun b off e h0 hx => OF.out.2 b off e h0 hx), G5.out.nc, G5.out.md, G5.out.fits⟩
        refine hK.out _ _ (HS.out _ L7.out) (fun hHeld => ?_)
        clear hK k7 f7
        try go_frame
        refine wpAnyH_done (by kernel_rfl) ?_ _
        go_wp2
        go_meet
        exact ⟨g, A2, c2, M2, d2, rfl, Nat.le_trans DW.out.size GX.out, K7.out, H7.out, DW.out.trans (L7.out.mono DW.out.size)⟩
    case rest =>
      obtain ⟨g, A2, c2, M2, d2, rfl, hg, hk, hh, hl⟩ := hcut
      have GG := Lib.hid hg
      have KG := Lib.hid hk
      have HG := Lib.hid hh
      have LG := Lib.hid hl
      clear hg hk hh hl
      have L := Lib.hid (BB.out.trans (LG.out.mono BB.out.size))
      have KS := Lib.hid (kb_below KB.out LG.out)
      have SG : Hid (w.heap.size < g) := Lib.hid (by have := heap_lt KB.out; have := GG.out; omega)
      clear KB BB LG GG
      go_wp2
      go_loopg [11, 10] N (fun q v11 v10 wr => ∃ (j : Nat) (st fi : Int) (A' : Option Addr) (c' : Nat) (M' : Option Addr) (d' : Nat), j + q = N ∧ v11 = .int .i64 j ∧ v10 = .int .i64 fi ∧ ((j = 0 ∧ st = 1 ∧ fi = 0) ∨ (0 < j ∧ st = 3)) ∧ wr.heap[g]? = some (kobj A' n c' M' m d' ⟨st, j, fi, KN.tm⟩) ∧ Bat wr A' n c' M' m d' zs ms ∧ wr.heap[w.heap.size]? = some (vobj 28 (kvals A n k M m d KN)) ∧ Below w.heap.size w wr)
      case atStart => exact ⟨0, 1, 0, A2, c2, M2, d2, by omega, rfl, rfl, .inl ⟨rfl, rfl, rfl⟩, KG.out, HG.out, KS.out, L.out⟩
      case round =>
        clear L KS KG HG A2 c2 M2 d2
        obtain ⟨j, st, fi, A2, c2, M2, d2, hq, rfl, rfl, hst, hkg, hhg, hks, hl⟩ := hrel
        have HQ := Lib.hid hq
        have L := Lib.hid hl
        have KS := Lib.hid hks
        have KG := Lib.hid hkg
        have HG := Lib.hid hhg
        clear hq hl hks hkg hhg
        by_cases hjN0 : j < N
        · have hjN : (j : Int) < (N : Int) := by omega
          have GLR : Hid (g + 1 ≤ wr.heap.size) := Lib.hid (heap_lt KG.out)
          rcases hst with ⟨hj1, rfl, rfl⟩ | ⟨hj1, rfl⟩
          · by_cases hjl0 : j < l2
            · have hjl : (j : Int) < (l2 : Int) := by omega
              obtain ⟨cb, co, z, rfl, hz, p0⟩ := (HV.out.later L.out).int_at (i := j) (by omega)
              have hj0 : ((j : Int) == 0) = true := by simp; omega
              have HJ1 := Lib.hid hj1
              clear hj1
              have hK : CN.fail ⟨1, (j : Int), 0, KN.tm⟩ z N = ⟨3, ((j : Int) + 1), z, KN.tm⟩ := by simp only [CN.fail, CN.why]; rw [if_pos (by decide), if_pos hjN]; rfl
              have hF : CN.fails ⟨1, (j : Int), 0, KN.tm⟩ N = true := by simp only [CN.fails]; exact decide_eq_true ⟨by decide, hjN⟩
              have HK := Lib.hid hK
              have HFF := Lib.hid hF
              have JW : Hid (wf64 (j : Int)) := Lib.hid ⟨by omega, by have := HN0.out; omega⟩
              clear hK hF
              obtain ⟨x0, x1, x2, x3, x4, x5⟩ := kobj_cells KG.out
              try simp only at x2 x3 x4 x5
              go_wp2_with fail
              clear p0 hz x0 x1 x2 x3 x4 x5
              refine (kfail_is A2 n c2 M2 m d2 ⟨1, (j : Int), 0, KN.tm⟩ ⟨3, ((j : Int) + 1), z, KN.tm⟩ true zs ms wr z N HK.out HFF.out HG.out hn hm JW.out NW.out).mono ?_
              rintro r v1 ⟨Av1, cv1, Mv1, dv1, rfl, hv1, ⟨fav1, fmv1⟩, bv1⟩
              have Hv1 := Lib.hid hv1
              have Nv1 : Hid (Fresh wr.heap.size Av1 ∧ Fresh wr.heap.size Mv1) := Lib.hid ⟨fav1, fmv1⟩
              have L_ := Lib.hid (L.out.trans (bv1.mono L.out.size))
              have KS_ := Lib.hid (kb_below KS.out bv1)
              have KG_ := Lib.hid (kb_below KG.out bv1)
              have HG_ := Lib.hid (HG.out.below bv1)
              clear L KS KG HG
              have L := L_
              have KS := KS_
              have KG := KG_
              have HG := HG_
              clear L_ KS_ KG_ HG_
              clear hv1 fav1 fmv1 bv1
              have GL0 : Hid (g + 1 ≤ wr.heap.size) := Lib.hid GLR.out
              have NQ : Hid (Fresh (g + 1) Av1 ∧ Fresh (g + 1) Mv1) := Lib.hid ⟨Nv1.out.1.mono GL0.out, Nv1.out.2.mono GL0.out⟩
              go_upto_region 16 with fail
              have KX : Hid ((v1.alloc (.cells #[.slice Av1 n cv1, .slice Mv1 m dv1, .int .i64 3, .int .i64 ((j : Int) + 1), .int .i64 z, .int .u64 KN.tm] 36)).heap[v1.heap.size]? = some (kobj Av1 n cv1 Mv1 m dv1 ⟨3, ((j : Int) + 1), z, KN.tm⟩)) := Lib.hid (heap_alloc_at v1 _)
              have bv2 : Below v1.heap.size v1 (v1.alloc (.cells #[.slice Av1 n cv1, .slice Mv1 m dv1, .int .i64 3, .int .i64 ((j : Int) + 1), .int .i64 z, .int .u64 KN.tm] 36)) := below_alloc v1 _
              have L_ := Lib.hid (L.out.trans (bv2.mono L.out.size))
              have KS_ := Lib.hid (kb_below KS.out bv2)
              have KG_ := Lib.hid (kb_below KG.out bv2)
              have HG_ := Lib.hid (HG.out.below bv2)
              have Hv1_ := Lib.hid (Hv1.out.below bv2)
              clear L KS KG HG Hv1
              have L := L_
              have KS := KS_
              have KG := KG_
              have HG := HG_
              have Hv1 := Hv1_
              clear L_ KS_ KG_ HG_ Hv1_
              clear bv2 Nv1
              generalize v1.alloc (.cells #[.slice Av1 n cv1, .slice Mv1 m dv1, .int .i64 3, .int .i64 ((j : Int) + 1), .int .i64 z, .int .u64 KN.tm] 36) = v2 at *
              generalize v1.heap.size = gv1 at *
              obtain ⟨x0, x1, x2, x3, x4, x5⟩ := kobj_cells KX.out
              try simp only at x2 x3 x4 x5
              go_upto_region 17 with (first
                | (refine wpList_store_agg rfl 36 _ _ rfl g (kvals A2 n c2 M2 m d2 ⟨1, (j : Int), 0, KN.tm⟩) (kvals Av1 n cv1 Mv1 m dv1 ⟨3, ((j : Int) + 1), z, KN.tm⟩) rfl rfl ?hz rfl sizeK (onesK _ _ _ _ _ _ _) ?_; (case hz => exact KG.out); intro v3 k5 f5 z5; clear z5 x0 x1 x2 x3 x4 x5;
                   have KY := Lib.hid k5; have FX := Lib.hid f5; obtain ⟨x0, x1, x2, x3, x4, x5⟩ := kobj_cells k5; simp only at x2 x3 x4 x5; clear k5 f5))
              have hj20 : (j : Int) < 20 := by have := HN0.out; omega
              have hjw : wrap64 ((j : Int) + 1) = (j : Int) + 1 := by unfold wrap64; omega
              go_wp2
              go_roundg (N - (j + 1))
              case measure => have := HQ.out; omega
              case rel =>
                have hsg := SG.out
                exact ⟨j + 1, 3, z, Av1, cv1, Mv1, dv1, by omega, by simp, by first | rfl | simp, .inr ⟨by omega, rfl⟩, by simpa using KY.out, Hv1.out.behind NQ.out.1 NQ.out.2 FX.out, (FX.out.block _ (heap_lt KS.out) (by show ¬ w.heap.size = g; omega)).trans KS.out, L.out.trans (FX.out.below L.out.size (fun j hj e => by omega))⟩
            · have hjl : ¬ (j : Int) < (l2 : Int) := by omega
              obtain ⟨z, hz⟩ : ∃ z : Int, z = 1 := ⟨_, rfl⟩
              have hj0 : ((j : Int) == 0) = true := by simp; omega
              have HJ1 := Lib.hid hj1
              clear hj1
              have hK : CN.fail ⟨1, (j : Int), 0, KN.tm⟩ z N = ⟨3, ((j : Int) + 1), z, KN.tm⟩ := by simp only [CN.fail, CN.why]; rw [if_pos (by decide), if_pos hjN]; rfl
              have hF : CN.fails ⟨1, (j : Int), 0, KN.tm⟩ N = true := by simp only [CN.fails]; exact decide_eq_true ⟨by decide, hjN⟩
              have HK := Lib.hid hK
              have HFF := Lib.hid hF
              have JW : Hid (wf64 (j : Int)) := Lib.hid ⟨by omega, by have := HN0.out; omega⟩
              clear hK hF
              subst hz
              obtain ⟨x0, x1, x2, x3, x4, x5⟩ := kobj_cells KG.out
              try simp only at x2 x3 x4 x5
              go_wp2_with fail
              clear x0 x1 x2 x3 x4 x5
              refine (kfail_is A2 n c2 M2 m d2 ⟨1, (j : Int), 0, KN.tm⟩ ⟨3, ((j : Int) + 1), 1, KN.tm⟩ true zs ms wr 1 N HK.out HFF.out HG.out hn hm JW.out NW.out).mono ?_
              rintro r v1 ⟨Av1, cv1, Mv1, dv1, rfl, hv1, ⟨fav1, fmv1⟩, bv1⟩
              have Hv1 := Lib.hid hv1
              have Nv1 : Hid (Fresh wr.heap.size Av1 ∧ Fresh wr.heap.size Mv1) := Lib.hid ⟨fav1, fmv1⟩
              have L_ := Lib.hid (L.out.trans (bv1.mono L.out.size))
              have KS_ := Lib.hid (kb_below KS.out bv1)
              have KG_ := Lib.hid (kb_below KG.out bv1)
              have HG_ := Lib.hid (HG.out.below bv1)
              clear L KS KG HG
              have L := L_
              have KS := KS_
              have KG := KG_
              have HG := HG_
              clear L_ KS_ KG_ HG_
              clear hv1 fav1 fmv1 bv1
              have GL0 : Hid (g + 1 ≤ wr.heap.size) := Lib.hid GLR.out
              have NQ : Hid (Fresh (g + 1) Av1 ∧ Fresh (g + 1) Mv1) := Lib.hid ⟨Nv1.out.1.mono GL0.out, Nv1.out.2.mono GL0.out⟩
              go_upto_region 16 with fail
              have KX : Hid ((v1.alloc (.cells #[.slice Av1 n cv1, .slice Mv1 m dv1, .int .i64 3, .int .i64 ((j : Int) + 1), .int .i64 1, .int .u64 KN.tm] 36)).heap[v1.heap.size]? = some (kobj Av1 n cv1 Mv1 m dv1 ⟨3, ((j : Int) + 1), 1, KN.tm⟩)) := Lib.hid (heap_alloc_at v1 _)
              have bv2 : Below v1.heap.size v1 (v1.alloc (.cells #[.slice Av1 n cv1, .slice Mv1 m dv1, .int .i64 3, .int .i64 ((j : Int) + 1), .int .i64 1, .int .u64 KN.tm] 36)) := below_alloc v1 _
              have L_ := Lib.hid (L.out.trans (bv2.mono L.out.size))
              have KS_ := Lib.hid (kb_below KS.out bv2)
              have KG_ := Lib.hid (kb_below KG.out bv2)
              have HG_ := Lib.hid (HG.out.below bv2)
              have Hv1_ := Lib.hid (Hv1.out.below bv2)
              clear L KS KG HG Hv1
              have L := L_
              have KS := KS_
              have KG := KG_
              have HG := HG_
              have Hv1 := Hv1_
              clear L_ KS_ KG_ HG_ Hv1_
              clear bv2 Nv1
              generalize v1.alloc (.cells #[.slice Av1 n cv1, .slice Mv1 m dv1, .int .i64 3, .int .i64 ((j : Int) + 1), .int .i64 1, .int .u64 KN.tm] 36) = v2 at *
              generalize v1.heap.size = gv1 at *
              obtain ⟨x0, x1, x2, x3, x4, x5⟩ := kobj_cells KX.out
              try simp only at x2 x3 x4 x5
              go_upto_region 17 with (first
                | (refine wpList_store_agg rfl 36 _ _ rfl g (kvals A2 n c2 M2 m d2 ⟨1, (j : Int), 0, KN.tm⟩) (kvals Av1 n cv1 Mv1 m dv1 ⟨3, ((j : Int) + 1), 1, KN.tm⟩) rfl rfl ?hz rfl sizeK (onesK _ _ _ _ _ _ _) ?_; (case hz => exact KG.out); intro v3 k5 f5 z5; clear z5 x0 x1 x2 x3 x4 x5;
                   have KY := Lib.hid k5; have FX := Lib.hid f5; obtain ⟨x0, x1, x2, x3, x4, x5⟩ := kobj_cells k5; simp only at x2 x3 x4 x5; clear k5 f5))
              have hj20 : (j : Int) < 20 := by have := HN0.out; omega
              have hjw : wrap64 ((j : Int) + 1) = (j : Int) + 1 := by unfold wrap64; omega
              go_wp2
              go_roundg (N - (j + 1))
              case measure => have := HQ.out; omega
              case rel =>
                have hsg := SG.out
                exact ⟨j + 1, 3, 1, Av1, cv1, Mv1, dv1, by omega, by simp, by first | rfl | simp, .inr ⟨by omega, rfl⟩, by simpa using KY.out, Hv1.out.behind NQ.out.1 NQ.out.2 FX.out, (FX.out.block _ (heap_lt KS.out) (by show ¬ w.heap.size = g; omega)).trans KS.out, L.out.trans (FX.out.below L.out.size (fun j hj e => by omega))⟩
          · by_cases hjl0 : j < l2
            · have hjl : (j : Int) < (l2 : Int) := by omega
              obtain ⟨cb, co, z, rfl, hz, p0⟩ := (HV.out.later L.out).int_at (i := j) (by omega)
              have hj0 : ((j : Int) == 0) = false := by simp; omega
              have HJ1 := Lib.hid hj1
              clear hj1
              have hK : CN.fail ⟨3, (j : Int), fi, KN.tm⟩ z N = ⟨3, ((j : Int) + 1), fi, KN.tm⟩ := by simp only [CN.fail, CN.why]; rw [if_pos (by decide), if_pos hjN]; rfl
              have hF : CN.fails ⟨3, (j : Int), fi, KN.tm⟩ N = true := by simp only [CN.fails]; exact decide_eq_true ⟨by decide, hjN⟩
              have HK := Lib.hid hK
              have HFF := Lib.hid hF
              have JW : Hid (wf64 (j : Int)) := Lib.hid ⟨by omega, by have := HN0.out; omega⟩
              clear hK hF
              obtain ⟨x0, x1, x2, x3, x4, x5⟩ := kobj_cells KG.out
              try simp only at x2 x3 x4 x5
              go_wp2_with fail
              clear p0 hz x0 x1 x2 x3 x4 x5
              refine (kfail_is A2 n c2 M2 m d2 ⟨3, (j : Int), fi, KN.tm⟩ ⟨3, ((j : Int) + 1), fi, KN.tm⟩ true zs ms wr z N HK.out HFF.out HG.out hn hm JW.out NW.out).mono ?_
              rintro r v1 ⟨Av1, cv1, Mv1, dv1, rfl, hv1, ⟨fav1, fmv1⟩, bv1⟩
              have Hv1 := Lib.hid hv1
              have Nv1 : Hid (Fresh wr.heap.size Av1 ∧ Fresh wr.heap.size Mv1) := Lib.hid ⟨fav1, fmv1⟩
              have L_ := Lib.hid (L.out.trans (bv1.mono L.out.size))
              have KS_ := Lib.hid (kb_below KS.out bv1)
              have KG_ := Lib.hid (kb_below KG.out bv1)
              have HG_ := Lib.hid (HG.out.below bv1)
              clear L KS KG HG
              have L := L_
              have KS := KS_
              have KG := KG_
              have HG := HG_
              clear L_ KS_ KG_ HG_
              clear hv1 fav1 fmv1 bv1
              have GL0 : Hid (g + 1 ≤ wr.heap.size) := Lib.hid GLR.out
              have NQ : Hid (Fresh (g + 1) Av1 ∧ Fresh (g + 1) Mv1) := Lib.hid ⟨Nv1.out.1.mono GL0.out, Nv1.out.2.mono GL0.out⟩
              go_upto_region 16 with fail
              have KX : Hid ((v1.alloc (.cells #[.slice Av1 n cv1, .slice Mv1 m dv1, .int .i64 3, .int .i64 ((j : Int) + 1), .int .i64 fi, .int .u64 KN.tm] 36)).heap[v1.heap.size]? = some (kobj Av1 n cv1 Mv1 m dv1 ⟨3, ((j : Int) + 1), fi, KN.tm⟩)) := Lib.hid (heap_alloc_at v1 _)
              have bv2 : Below v1.heap.size v1 (v1.alloc (.cells #[.slice Av1 n cv1, .slice Mv1 m dv1, .int .i64 3, .int .i64 ((j : Int) + 1), .int .i64 fi, .int .u64 KN.tm] 36)) := below_alloc v1 _
              have L_ := Lib.hid (L.out.trans (bv2.mono L.out.size))
              have KS_ := Lib.hid (kb_below KS.out bv2)
              have KG_ := Lib.hid (kb_below KG.out bv2)
              have HG_ := Lib.hid (HG.out.below bv2)
              have Hv1_ := Lib.hid (Hv1.out.below bv2)
              clear L KS KG HG Hv1
              have L := L_
              have KS := KS_
              have KG := KG_
              have HG := HG_
              have Hv1 := Hv1_
              clear L_ KS_ KG_ HG_ Hv1_
              clear bv2 Nv1
              generalize v1.alloc (.cells #[.slice Av1 n cv1, .slice Mv1 m dv1, .int .i64 3, .int .i64 ((j : Int) + 1), .int .i64 fi, .int .u64 KN.tm] 36) = v2 at *
              generalize v1.heap.size = gv1 at *
              obtain ⟨x0, x1, x2, x3, x4, x5⟩ := kobj_cells KX.out
              try simp only at x2 x3 x4 x5
              go_upto_region 17 with (first
                | (refine wpList_store_agg rfl 36 _ _ rfl g (kvals A2 n c2 M2 m d2 ⟨3, (j : Int), fi, KN.tm⟩) (kvals Av1 n cv1 Mv1 m dv1 ⟨3, ((j : Int) + 1), fi, KN.tm⟩) rfl rfl ?hz rfl sizeK (onesK _ _ _ _ _ _ _) ?_; (case hz => exact KG.out); intro v3 k5 f5 z5; clear z5 x0 x1 x2 x3 x4 x5;
                   have KY := Lib.hid k5; have FX := Lib.hid f5; obtain ⟨x0, x1, x2, x3, x4, x5⟩ := kobj_cells k5; simp only at x2 x3 x4 x5; clear k5 f5))
              have hj20 : (j : Int) < 20 := by have := HN0.out; omega
              have hjw : wrap64 ((j : Int) + 1) = (j : Int) + 1 := by unfold wrap64; omega
              go_wp2
              go_roundg (N - (j + 1))
              case measure => have := HQ.out; omega
              case rel =>
                have hsg := SG.out
                exact ⟨j + 1, 3, fi, Av1, cv1, Mv1, dv1, by omega, by simp, by first | rfl | simp, .inr ⟨by omega, rfl⟩, by simpa using KY.out, Hv1.out.behind NQ.out.1 NQ.out.2 FX.out, (FX.out.block _ (heap_lt KS.out) (by show ¬ w.heap.size = g; omega)).trans KS.out, L.out.trans (FX.out.below L.out.size (fun j hj e => by omega))⟩
            · have hjl : ¬ (j : Int) < (l2 : Int) := by omega
              obtain ⟨z, hz⟩ : ∃ z : Int, z = 1 := ⟨_, rfl⟩
              have hj0 : ((j : Int) == 0) = false := by simp; omega
              have HJ1 := Lib.hid hj1
              clear hj1
              have hK : CN.fail ⟨3, (j : Int), fi, KN.tm⟩ z N = ⟨3, ((j : Int) + 1), fi, KN.tm⟩ := by simp only [CN.fail, CN.why]; rw [if_pos (by decide), if_pos hjN]; rfl
              have hF : CN.fails ⟨3, (j : Int), fi, KN.tm⟩ N = true := by simp only [CN.fails]; exact decide_eq_true ⟨by decide, hjN⟩
              have HK := Lib.hid hK
              have HFF := Lib.hid hF
              have JW : Hid (wf64 (j : Int)) := Lib.hid ⟨by omega, by have := HN0.out; omega⟩
              clear hK hF
              subst hz
              obtain ⟨x0, x1, x2, x3, x4, x5⟩ := kobj_cells KG.out
              try simp only at x2 x3 x4 x5
              go_wp2_with fail
              clear x0 x1 x2 x3 x4 x5
              refine (kfail_is A2 n c2 M2 m d2 ⟨3, (j : Int), fi, KN.tm⟩ ⟨3, ((j : Int) + 1), fi, KN.tm⟩ true zs ms wr 1 N HK.out HFF.out HG.out hn hm JW.out NW.out).mono ?_
              rintro r v1 ⟨Av1, cv1, Mv1, dv1, rfl, hv1, ⟨fav1, fmv1⟩, bv1⟩
              have Hv1 := Lib.hid hv1
              have Nv1 : Hid (Fresh wr.heap.size Av1 ∧ Fresh wr.heap.size Mv1) := Lib.hid ⟨fav1, fmv1⟩
              have L_ := Lib.hid (L.out.trans (bv1.mono L.out.size))
              have KS_ := Lib.hid (kb_below KS.out bv1)
              have KG_ := Lib.hid (kb_below KG.out bv1)
              have HG_ := Lib.hid (HG.out.below bv1)
              clear L KS KG HG
              have L := L_
              have KS := KS_
              have KG := KG_
              have HG := HG_
              clear L_ KS_ KG_ HG_
              clear hv1 fav1 fmv1 bv1
              have GL0 : Hid (g + 1 ≤ wr.heap.size) := Lib.hid GLR.out
              have NQ : Hid (Fresh (g + 1) Av1 ∧ Fresh (g + 1) Mv1) := Lib.hid ⟨Nv1.out.1.mono GL0.out, Nv1.out.2.mono GL0.out⟩
              go_upto_region 16 with fail
              have KX : Hid ((v1.alloc (.cells #[.slice Av1 n cv1, .slice Mv1 m dv1, .int .i64 3, .int .i64 ((j : Int) + 1), .int .i64 fi, .int .u64 KN.tm] 36)).heap[v1.heap.size]? = some (kobj Av1 n cv1 Mv1 m dv1 ⟨3, ((j : Int) + 1), fi, KN.tm⟩)) := Lib.hid (heap_alloc_at v1 _)
              have bv2 : Below v1.heap.size v1 (v1.alloc (.cells #[.slice Av1 n cv1, .slice Mv1 m dv1, .int .i64 3, .int .i64 ((j : Int) + 1), .int .i64 fi, .int .u64 KN.tm] 36)) := below_alloc v1 _
              have L_ := Lib.hid (L.out.trans (bv2.mono L.out.size))
              have KS_ := Lib.hid (kb_below KS.out bv2)
              have KG_ := Lib.hid (kb_below KG.out bv2)
              have HG_ := Lib.hid (HG.out.below bv2)
              have Hv1_ := Lib.hid (Hv1.out.below bv2)
              clear L KS KG HG Hv1
              have L := L_
              have KS := KS_
              have KG := KG_
              have HG := HG_
              have Hv1 := Hv1_
              clear L_ KS_ KG_ HG_ Hv1_
              clear bv2 Nv1
              generalize v1.alloc (.cells #[.slice Av1 n cv1, .slice Mv1 m dv1, .int .i64 3, .int .i64 ((j : Int) + 1), .int .i64 fi, .int .u64 KN.tm] 36) = v2 at *
              generalize v1.heap.size = gv1 at *
              obtain ⟨x0, x1, x2, x3, x4, x5⟩ := kobj_cells KX.out
              try simp only at x2 x3 x4 x5
              go_upto_region 17 with (first
                | (refine wpList_store_agg rfl 36 _ _ rfl g (kvals A2 n c2 M2 m d2 ⟨3, (j : Int), fi, KN.tm⟩) (kvals Av1 n cv1 Mv1 m dv1 ⟨3, ((j : Int) + 1), fi, KN.tm⟩) rfl rfl ?hz rfl sizeK (onesK _ _ _ _ _ _ _) ?_; (case hz => exact KG.out); intro v3 k5 f5 z5; clear z5 x0 x1 x2 x3 x4 x5;
                   have KY := Lib.hid k5; have FX := Lib.hid f5; obtain ⟨x0, x1, x2, x3, x4, x5⟩ := kobj_cells k5; simp only at x2 x3 x4 x5; clear k5 f5))
              have hj20 : (j : Int) < 20 := by have := HN0.out; omega
              have hjw : wrap64 ((j : Int) + 1) = (j : Int) + 1 := by unfold wrap64; omega
              go_wp2
              go_roundg (N - (j + 1))
              case measure => have := HQ.out; omega
              case rel =>
                have hsg := SG.out
                exact ⟨j + 1, 3, fi, Av1, cv1, Mv1, dv1, by omega, by simp, by first | rfl | simp, .inr ⟨by omega, rfl⟩, by simpa using KY.out, Hv1.out.behind NQ.out.1 NQ.out.2 FX.out, (FX.out.block _ (heap_lt KS.out) (by show ¬ w.heap.size = g; omega)).trans KS.out, L.out.trans (FX.out.below L.out.size (fun j hj e => by omega))⟩
        · have hjN : ¬ (j : Int) < (N : Int) := by omega
          obtain rfl : j = N := by have := HQ.out; omega
          rcases hst with ⟨hj1, rfl, rfl⟩ | ⟨hj1, rfl⟩
          · have h0 : ((j : Int) == 0) = true := by simp; omega
            have HK : Hid (CN.fail ⟨1, (j : Int), 0, KN.tm⟩ 4 j = ⟨4, (j : Int), 4, KN.tm⟩) := Lib.hid (by simp only [CN.fail, CN.why]; rw [if_pos (by decide), if_neg (by omega)]; rfl)
            have HFF : Hid (CN.fails ⟨1, (j : Int), 0, KN.tm⟩ j = false) := Lib.hid (by simp only [CN.fails]; exact decide_eq_false (fun h => by omega))
            have HJ1 := Lib.hid hj1
            clear hj1
            obtain ⟨x0, x1, x2, x3, x4, x5⟩ := kobj_cells KG.out
            try simp only at x2 x3 x4 x5
            go_wp2_with fail
            clear x0 x1 x2 x3 x4 x5
            refine (kfail_is A2 n c2 M2 m d2 ⟨1, (j : Int), 0, KN.tm⟩ ⟨4, (j : Int), 4, KN.tm⟩ false zs ms wr 4 j HK.out HFF.out HG.out hn hm NW.out NW.out).mono ?_
            rintro r v1 ⟨Av1, cv1, Mv1, dv1, rfl, hv1, ⟨fav1, fmv1⟩, bv1⟩
            have Hv1 := Lib.hid hv1
            have Nv1 : Hid (Fresh wr.heap.size Av1 ∧ Fresh wr.heap.size Mv1) := Lib.hid ⟨fav1, fmv1⟩
            have L_ := Lib.hid (L.out.trans (bv1.mono L.out.size))
            have KS_ := Lib.hid (kb_below KS.out bv1)
            have KG_ := Lib.hid (kb_below KG.out bv1)
            have HG_ := Lib.hid (HG.out.below bv1)
            clear L KS KG HG
            have L := L_
            have KS := KS_
            have KG := KG_
            have HG := HG_
            clear L_ KS_ KG_ HG_
            clear hv1 fav1 fmv1 bv1
            go_upto_region 20 with fail
            have KY : Hid ((v1.alloc (.cells #[.slice Av1 n cv1, .slice Mv1 m dv1, .int .i64 4, .int .i64 (j : Int), .int .i64 4, .int .u64 KN.tm] 36)).heap[v1.heap.size]? = some (kobj Av1 n cv1 Mv1 m dv1 ⟨4, (j : Int), 4, KN.tm⟩)) := Lib.hid (heap_alloc_at v1 _)
            have bv2 : Below v1.heap.size v1 (v1.alloc (.cells #[.slice Av1 n cv1, .slice Mv1 m dv1, .int .i64 4, .int .i64 (j : Int), .int .i64 4, .int .u64 KN.tm] 36)) := below_alloc v1 _
            have L_ := Lib.hid (L.out.trans (bv2.mono L.out.size))
            have KS_ := Lib.hid (kb_below KS.out bv2)
            have KG_ := Lib.hid (kb_below KG.out bv2)
            have HG_ := Lib.hid (HG.out.below bv2)
            have Hv1_ := Lib.hid (Hv1.out.below bv2)
            clear L KS KG HG Hv1
            have L := L_
            have KS := KS_
            have KG := KG_
            have HG := HG_
            have Hv1 := Hv1_
            clear L_ KS_ KG_ HG_ Hv1_
            clear bv2 Nv1
            generalize v1.alloc (.cells #[.slice Av1 n cv1, .slice Mv1 m dv1, .int .i64 4, .int .i64 (j : Int), .int .i64 4, .int .u64 KN.tm] 36) = v2 at *
            generalize v1.heap.size = gv1 at *
            obtain ⟨x0, x1, x2, x3, x4, x5⟩ := kobj_cells KY.out
            try simp only at x2 x3 x4 x5
            go_wp2_with fail
            clear x0 x1 x2 x3 x4 x5
            refine (kfail_is Av1 n cv1 Mv1 m dv1 ⟨4, (j : Int), 4, KN.tm⟩ ⟨4, (j : Int), 4, KN.tm⟩ false zs ms v2 1 j rfl rfl Hv1.out hn hm NW.out NW.out).mono ?_
            rintro r v3 ⟨Av3, cv3, Mv3, dv3, rfl, hv3, ⟨fav3, fmv3⟩, bv3⟩
            have Hv3 := Lib.hid hv3
            have Nv3 : Hid (Fresh v2.heap.size Av3 ∧ Fresh v2.heap.size Mv3) := Lib.hid ⟨fav3, fmv3⟩
            have L_ := Lib.hid (L.out.trans (bv3.mono L.out.size))
            have KS_ := Lib.hid (kb_below KS.out bv3)
            have KG_ := Lib.hid (kb_below KG.out bv3)
            have KY_ := Lib.hid (kb_below KY.out bv3)
            have HG_ := Lib.hid (HG.out.below bv3)
            have Hv1_ := Lib.hid (Hv1.out.below bv3)
            clear L KS KG KY HG Hv1
            have L := L_
            have KS := KS_
            have KG := KG_
            have KY := KY_
            have HG := HG_
            have Hv1 := Hv1_
            clear L_ KS_ KG_ KY_ HG_ Hv1_
            clear hv3 fav3 fmv3 bv3
            go_upto_region 21 with fail
            have KZ : Hid ((v3.alloc (.cells #[.slice Av3 n cv3, .slice Mv3 m dv3, .int .i64 4, .int .i64 (j : Int), .int .i64 4, .int .u64 KN.tm] 36)).heap[v3.heap.size]? = some (kobj Av3 n cv3 Mv3 m dv3 ⟨4, (j : Int), 4, KN.tm⟩)) := Lib.hid (heap_alloc_at v3 _)
            have bv4 : Below v3.heap.size v3 (v3.alloc (.cells #[.slice Av3 n cv3, .slice Mv3 m dv3, .int .i64 4, .int .i64 (j : Int), .int .i64 4, .int .u64 KN.tm] 36)) := below_alloc v3 _
            have L_ := Lib.hid (L.out.trans (bv4.mono L.out.size))
            have KS_ := Lib.hid (kb_below KS.out bv4)
            have KG_ := Lib.hid (kb_below KG.out bv4)
            have KY_ := Lib.hid (kb_below KY.out bv4)
            have HG_ := Lib.hid (HG.out.below bv4)
            have Hv1_ := Lib.hid (Hv1.out.below bv4)
            have Hv3_ := Lib.hid (Hv3.out.below bv4)
            clear L KS KG KY HG Hv1 Hv3
            have L := L_
            have KS := KS_
            have KG := KG_
            have KY := KY_
            have HG := HG_
            have Hv1 := Hv1_
            have Hv3 := Hv3_
            clear L_ KS_ KG_ KY_ HG_ Hv1_ Hv3_
            clear bv4 Nv3
            generalize v3.alloc (.cells #[.slice Av3 n cv3, .slice Mv3 m dv3, .int .i64 4, .int .i64 (j : Int), .int .i64 4, .int .u64 KN.tm] 36) = v4 at *
            generalize v3.heap.size = gv3 at *
            obtain ⟨x0, x1, x2, x3, x4, x5⟩ := kobj_cells KY.out
            try simp only at x2 x3 x4 x5
            obtain ⟨y0, y1, y2, y3, y4, y5⟩ := kobj_cells KZ.out
            try simp only at y2 y3 y4 y5
            obtain ⟨s0, s1, s2, s3, s4, s5⟩ := kobj_cells KS.out
            try simp only at s2 s3 s4 s5
            go_wp2_with fail
            clear x0 x1 x2 x3 x4 x5 y0 y1 y2 y3 y4 y5 s0 s1 s2 s3 s4 s5
            refine (same15_any Av3 n cv3 Mv3 m dv3 A k M d ⟨4, (j : Int), 4, KN.tm⟩ zs ms v4 Hv3.out (HB.out.below L.out) hm).mono ?_
            rintro r v5 ⟨rfl, bv5⟩
            have L_ := Lib.hid (L.out.trans (bv5.mono L.out.size))
            have KS_ := Lib.hid (kb_below KS.out bv5)
            have KG_ := Lib.hid (kb_below KG.out bv5)
            have KY_ := Lib.hid (kb_below KY.out bv5)
            have KZ_ := Lib.hid (kb_below KZ.out bv5)
            have HG_ := Lib.hid (HG.out.below bv5)
            have Hv1_ := Lib.hid (Hv1.out.below bv5)
            have Hv3_ := Lib.hid (Hv3.out.below bv5)
            clear L KS KG KY KZ HG Hv1 Hv3
            have L := L_
            have KS := KS_
            have KG := KG_
            have KY := KY_
            have KZ := KZ_
            have HG := HG_
            have Hv1 := Hv1_
            have Hv3 := Hv3_
            clear L_ KS_ KG_ KY_ KZ_ HG_ Hv1_ Hv3_
            clear bv5
            go_wp2
            go_ret
            exact ⟨rfl, L.out⟩
          · have h0 : ((j : Int) == 0) = false := by simp; omega
            have HK : Hid (CN.fail ⟨3, (j : Int), fi, KN.tm⟩ 4 j = ⟨4, (j : Int), fi, KN.tm⟩) := Lib.hid (by simp only [CN.fail, CN.why]; rw [if_pos (by decide), if_neg (by omega)]; rfl)
            have HFF : Hid (CN.fails ⟨3, (j : Int), fi, KN.tm⟩ j = false) := Lib.hid (by simp only [CN.fails]; exact decide_eq_false (fun h => by omega))
            have HJ1 := Lib.hid hj1
            clear hj1
            obtain ⟨x0, x1, x2, x3, x4, x5⟩ := kobj_cells KG.out
            try simp only at x2 x3 x4 x5
            go_wp2_with fail
            clear x0 x1 x2 x3 x4 x5
            refine (kfail_is A2 n c2 M2 m d2 ⟨3, (j : Int), fi, KN.tm⟩ ⟨4, (j : Int), fi, KN.tm⟩ false zs ms wr 4 j HK.out HFF.out HG.out hn hm NW.out NW.out).mono ?_
            rintro r v1 ⟨Av1, cv1, Mv1, dv1, rfl, hv1, ⟨fav1, fmv1⟩, bv1⟩
            have Hv1 := Lib.hid hv1
            have Nv1 : Hid (Fresh wr.heap.size Av1 ∧ Fresh wr.heap.size Mv1) := Lib.hid ⟨fav1, fmv1⟩
            have L_ := Lib.hid (L.out.trans (bv1.mono L.out.size))
            have KS_ := Lib.hid (kb_below KS.out bv1)
            have KG_ := Lib.hid (kb_below KG.out bv1)
            have HG_ := Lib.hid (HG.out.below bv1)
            clear L KS KG HG
            have L := L_
            have KS := KS_
            have KG := KG_
            have HG := HG_
            clear L_ KS_ KG_ HG_
            clear hv1 fav1 fmv1 bv1
            go_upto_region 20 with fail
            have KY : Hid ((v1.alloc (.cells #[.slice Av1 n cv1, .slice Mv1 m dv1, .int .i64 4, .int .i64 (j : Int), .int .i64 fi, .int .u64 KN.tm] 36)).heap[v1.heap.size]? = some (kobj Av1 n cv1 Mv1 m dv1 ⟨4, (j : Int), fi, KN.tm⟩)) := Lib.hid (heap_alloc_at v1 _)
            have bv2 : Below v1.heap.size v1 (v1.alloc (.cells #[.slice Av1 n cv1, .slice Mv1 m dv1, .int .i64 4, .int .i64 (j : Int), .int .i64 fi, .int .u64 KN.tm] 36)) := below_alloc v1 _
            have L_ := Lib.hid (L.out.trans (bv2.mono L.out.size))
            have KS_ := Lib.hid (kb_below KS.out bv2)
            have KG_ := Lib.hid (kb_below KG.out bv2)
            have HG_ := Lib.hid (HG.out.below bv2)
            have Hv1_ := Lib.hid (Hv1.out.below bv2)
            clear L KS KG HG Hv1
            have L := L_
            have KS := KS_
            have KG := KG_
            have HG := HG_
            have Hv1 := Hv1_
            clear L_ KS_ KG_ HG_ Hv1_
            clear bv2 Nv1
            generalize v1.alloc (.cells #[.slice Av1 n cv1, .slice Mv1 m dv1, .int .i64 4, .int .i64 (j : Int), .int .i64 fi, .int .u64 KN.tm] 36) = v2 at *
            generalize v1.heap.size = gv1 at *
            obtain ⟨x0, x1, x2, x3, x4, x5⟩ := kobj_cells KY.out
            try simp only at x2 x3 x4 x5
            go_wp2_with fail
            clear x0 x1 x2 x3 x4 x5
            refine (kfail_is Av1 n cv1 Mv1 m dv1 ⟨4, (j : Int), fi, KN.tm⟩ ⟨4, (j : Int), fi, KN.tm⟩ false zs ms v2 1 j rfl rfl Hv1.out hn hm NW.out NW.out).mono ?_
            rintro r v3 ⟨Av3, cv3, Mv3, dv3, rfl, hv3, ⟨fav3, fmv3⟩, bv3⟩
            have Hv3 := Lib.hid hv3
            have Nv3 : Hid (Fresh v2.heap.size Av3 ∧ Fresh v2.heap.size Mv3) := Lib.hid ⟨fav3, fmv3⟩
            have L_ := Lib.hid (L.out.trans (bv3.mono L.out.size))
            have KS_ := Lib.hid (kb_below KS.out bv3)
            have KG_ := Lib.hid (kb_below KG.out bv3)
            have KY_ := Lib.hid (kb_below KY.out bv3)
            have HG_ := Lib.hid (HG.out.below bv3)
            have Hv1_ := Lib.hid (Hv1.out.below bv3)
            clear L KS KG KY HG Hv1
            have L := L_
            have KS := KS_
            have KG := KG_
            have KY := KY_
            have HG := HG_
            have Hv1 := Hv1_
            clear L_ KS_ KG_ KY_ HG_ Hv1_
            clear hv3 fav3 fmv3 bv3
            go_upto_region 21 with fail
            have KZ : Hid ((v3.alloc (.cells #[.slice Av3 n cv3, .slice Mv3 m dv3, .int .i64 4, .int .i64 (j : Int), .int .i64 fi, .int .u64 KN.tm] 36)).heap[v3.heap.size]? = some (kobj Av3 n cv3 Mv3 m dv3 ⟨4, (j : Int), fi, KN.tm⟩)) := Lib.hid (heap_alloc_at v3 _)
            have bv4 : Below v3.heap.size v3 (v3.alloc (.cells #[.slice Av3 n cv3, .slice Mv3 m dv3, .int .i64 4, .int .i64 (j : Int), .int .i64 fi, .int .u64 KN.tm] 36)) := below_alloc v3 _
            have L_ := Lib.hid (L.out.trans (bv4.mono L.out.size))
            have KS_ := Lib.hid (kb_below KS.out bv4)
            have KG_ := Lib.hid (kb_below KG.out bv4)
            have KY_ := Lib.hid (kb_below KY.out bv4)
            have HG_ := Lib.hid (HG.out.below bv4)
            have Hv1_ := Lib.hid (Hv1.out.below bv4)
            have Hv3_ := Lib.hid (Hv3.out.below bv4)
            clear L KS KG KY HG Hv1 Hv3
            have L := L_
            have KS := KS_
            have KG := KG_
            have KY := KY_
            have HG := HG_
            have Hv1 := Hv1_
            have Hv3 := Hv3_
            clear L_ KS_ KG_ KY_ HG_ Hv1_ Hv3_
            clear bv4 Nv3
            generalize v3.alloc (.cells #[.slice Av3 n cv3, .slice Mv3 m dv3, .int .i64 4, .int .i64 (j : Int), .int .i64 fi, .int .u64 KN.tm] 36) = v4 at *
            generalize v3.heap.size = gv3 at *
            obtain ⟨x0, x1, x2, x3, x4, x5⟩ := kobj_cells KY.out
            try simp only at x2 x3 x4 x5
            obtain ⟨y0, y1, y2, y3, y4, y5⟩ := kobj_cells KZ.out
            try simp only at y2 y3 y4 y5
            obtain ⟨s0, s1, s2, s3, s4, s5⟩ := kobj_cells KS.out
            try simp only at s2 s3 s4 s5
            go_wp2_with fail
            clear x0 x1 x2 x3 x4 x5 y0 y1 y2 y3 y4 y5 s0 s1 s2 s3 s4 s5
            refine (same15_any Av3 n cv3 Mv3 m dv3 A k M d ⟨4, (j : Int), fi, KN.tm⟩ zs ms v4 Hv3.out (HB.out.below L.out) hm).mono ?_
            rintro r v5 ⟨rfl, bv5⟩
            have L_ := Lib.hid (L.out.trans (bv5.mono L.out.size))
            have KS_ := Lib.hid (kb_below KS.out bv5)
            have KG_ := Lib.hid (kb_below KG.out bv5)
            have KY_ := Lib.hid (kb_below KY.out bv5)
            have KZ_ := Lib.hid (kb_below KZ.out bv5)
            have HG_ := Lib.hid (HG.out.below bv5)
            have Hv1_ := Lib.hid (Hv1.out.below bv5)
            have Hv3_ := Lib.hid (Hv3.out.below bv5)
            clear L KS KG KY KZ HG Hv1 Hv3
            have L := L_
            have KS := KS_
            have KG := KG_
            have KY := KY_
            have KZ := KZ_
            have HG := HG_
            have Hv1 := Hv1_
            have Hv3 := Hv3_
            clear L_ KS_ KG_ KY_ KZ_ HG_ Hv1_ Hv3_
            clear bv5
            go_wp2
            go_ret
            exact ⟨rfl, L.out⟩

set_option maxRecDepth 100000 in
theorem lifted (os : Os) (started : os.Started) (H : Type) (enc : TypeId × Value → H) :
    ReturnsInHanded {} Try.checked os 5 .any (Rows.callEndsSpec.pre6 enc Try.prog Try.f5 Rows.callEndsRow.domain false) (Rows.callEndsSpec.post enc Try.prog Try.f5 false true false false) := by
  refine returnsInHanded_of_change_sized (C := Try.checked) own started (by kernel_rfl) Try.func5
    (ChangeSpec.witness6 (enc := enc) (C := Try.checked) false ⟨#[], #[.agg #[.slice none 0 0, .slice none 0 0, .int .i64 0, .int .i64 0, .int .i64 0, .int .u64 0], .int .u8 0, .slice none 0 0], []⟩ 8 (by kernel_rfl) (by kernel_rfl) (by kernel_rfl) (by kernel_rfl)) ?_
  intro W base args ds gs before hval0 hW hcnd hsz0 _
  have hval : ∀ (j : Nat) t v, Try.f5.params[j]? = some t → args[j]? = some v → Value.okWide Try.prog W .any base t v := hval0
  have hsz : (DataW.weightsEach Try.prog (Try.f5.params.toList ++ Rows.callEndsSpec.plain.varTypes Try.prog) (ds ++ gs)).all (· ≤ reachBytes) = true := hsz0
  have hW' := hW
  obtain ⟨p, q, hA0, hV, rfl, hfz, hnd⟩ := hW
  have hA : DataW.TrodAll enc Try.prog W 0 (fun _ => true) true Try.f5.params.toList args.toList ds p := hA0
  rw [Try.params5] at hA hval hsz
  have hAk := hA
  obtain ⟨v0, vs0, d0, ds0, p0, q0, hargs, rfl, rfl, h0, r0⟩ := trodAll_cons hA
  obtain ⟨v1, vs1, d1, ds1, p1, q1, rfl, rfl, rfl, h1, r1⟩ := trodAll_cons r0
  obtain ⟨v2, vs2, d2, ds2, p2, q2, rfl, rfl, rfl, h2, r2⟩ := trodAll_cons r1
  obtain ⟨rfl, rfl, rfl⟩ := trodAll_nil r2
  obtain rfl : args = #[v0, v1, v2] := by cases args; simp_all
  obtain ⟨rfl, rfl⟩ := trodVars_none hV
  obtain ⟨c0, rfl, w0⟩ := open_shape (ss := [.row [.int .i64] 8, .row [.int .i64, .int .i64] 16, .lit (.int .i64), .lit (.int .i64), .lit (.int .i64), .lit (.int .u64)]) 8 (by kernel_rfl) (by kernel_rfl) (hval 0 28 v0 rfl rfl) h0 hsz 0 rfl rfl
  obtain ⟨a1, rfl, rfl, rfl, w1⟩ := open_int Try.underlying5 (hval 1 5 v1 rfl rfl) h1
  obtain ⟨a2, l2, k2, L2, rfl, w2⟩ := open_slice_flat (ks := [.int .i64]) (bytes := 8) 8 Try.underlying22 (by kernel_rfl) (by kernel_rfl) (by decide) (by kernel_rfl) (hval 2 22 v2 rfl rfl) h2 (fun elems rest hd => by subst hd; exact sized_slice hsz (j := 2) (t := 22) (e := 3) rfl rfl Try.underlying22)
  clear hA0 hval0 hsz0
  refine (walk W c0 w0 a1 w1 a2 l2 k2 L2 w2).mono fun e W' ⟨he, bel⟩ => ?_
  subst he
  exact ⟨_, rfl, _, _, _, [], _, [], hW', trodAll_mk1 (shut_bool Try.underlying4 _), trodAll_below laidOut bel _ _ _ _ (by kernel_rfl) hAk, rfl, bel.frame _, fun h => by cases h⟩

theorem over : Rows.callEndsRow.holds Try.pinned (OpenSpec.ofChange Rows.callEndsSpec) :=
  OpenClaim.holds_of_wide 5 Try.f5 rfl rfl rfl rfl rfl rfl rfl ⟨rfl, rfl, rfl, rfl, rfl⟩ rfl rfl rfl rfl rfl (by kernel_rfl) Try.func5 (by kernel_rfl)
    (of_decide_eq_true (by kernel_rfl)) (by unfold Func.isWrapper; first | (rw [if_pos (by decide +kernel)]; kernel_rfl) | (rw [if_neg (by decide +kernel)]; exact ⟨rfl, rfl⟩))
    (fun os started H enc _ => lifted os started H enc)

theorem proved : Rows.CallEndsSaid := over
#print axioms proved
end Go.Proofs.Ytpfmjocpgnoepaa.callEnds
