/- What is proved: CallTells of porpoiselaw15 answers true for every input, and leaves its arguments as they were; conditions: those of the given row alone. -/
import Derived.Test.YtpfmjocpgnoepaaKit
import Derived.Test.YtpfmjocpgnoepaaLaw15
import Derived.Deep.DeepCutAuto
namespace Go.Proofs.Ytpfmjocpgnoepaa.callTells
open Go.ChangeShapes Go.WideShapes Go.ChangeAt Go.RowKit Go.Deep
open Go.ChangeMaps (open_string shut_string)
set_option linter.unusedVariables false

theorem own : ownKnob Try.prog.godebug = none := by kernel_rfl
theorem laidOut : laidOutB Try.prog = true := by kernel_rfl



set_option maxRecDepth 100000 in
set_option maxHeartbeats 4000000 in
theorem walk (w : World) (c0 : Array Value) (w0 : Shp w [.row [.int .i64] 8, .row [.int .i64, .int .i64] 16, .lit (.int .i64), .lit (.int .i64), .lit (.int .i64), .lit (.int .u64)] c0.toList) (c1 : Array Value) (w1 : Flat [.int .i64, .int .i64] c1.toList) (a2 : Int) (w2 : (Lit.int .u64 a2).wf = true) :
    Calls Try.prog 3 #[.agg c0, .agg c1, .int .u64 a2] w fun e w' => e = .returned (.bool true) ∧ Below w.heap.size w w' := by
  obtain ⟨A, n, k, M, m, d, KN, zs, ms, rfl, hB, hF, hZ⟩ := call_in w0
  obtain ⟨y0, y1, rfl, u0, u1⟩ := Flat.two w1
  have WY := Lib.hid (bounds_i64 u1)
  clear w1 u0 u1 w2
  obtain ⟨W, hW, b0, k0, k1, _⟩ := two_new w (vobj 28 (kvals A n k M m d KN)) (.cells #[.int .i64 y0, .int .i64 y1] 29)
  have HW : Hid ((w.alloc (.cells #[.slice A n k, .slice M m d, .int .i64 KN.st, .int .i64 KN.sp, .int .i64 KN.ca, .int .u64 KN.tm] 28)).alloc (.cells #[.int .i64 y0, .int .i64 y1] 29) = W) := Lib.hid hW
  have K1 := Lib.hid k1
  have K0 := Lib.hid k0
  have B0 := Lib.hid b0
  have HB := Lib.hid hB
  have HF := Lib.hid hF
  clear w0 hW k0 b0 hB hZ hF k1
  go_enter Try.func3, Try.ntmps3
  go_wp2_with fail
  rw [HW.out]
  refine (awake15_any W).mono ?_
  rintro r wa ⟨rfl, ba⟩
  have BA := Lib.hid (B0.out.trans (ba.mono B0.out.size))
  have KA := Lib.hid (kb_below K0.out ba)
  have KA1 := Lib.hid (kb_below K1.out ba)
  obtain ⟨q0, q1, q2, q3, q4, q5⟩ := kobj_cells KA.out
  clear ba HW K0 B0 K1
  go_wp2_with fail
  refine (few15_any A n k M m d wa).mono ?_
  rintro r wb ⟨rfl, bb⟩
  have BB := Lib.hid (BA.out.trans (bb.mono BA.out.size))
  have KB := Lib.hid (kb_below KA.out bb)
  have KB1 := Lib.hid (kb_below KA1.out bb)
  clear q0 q1 q2 q3 q4 q5 bb KA BA KA1
  by_cases hf : n ≤ 50 ∧ m ≤ 50
  case neg =>
    rw [decide_eq_false hf]
    clear hf
    go_wp2
    go_ret
    exact ⟨rfl, BB.out⟩
  case pos =>
    have hn : n ≤ 1000 := by omega
    have hm : m ≤ 1000 := by omega
    rw [decide_eq_true hf]
    clear hf
    go_upto_region 4 with fail
    have L := BB
    have KS := KB
    have KT := KB1
    clear BB KB KB1
    obtain ⟨s0, s1, s2, s3, s4, s5⟩ := kobj_cells KS.out
    try simp only at s2 s3 s4 s5
    go_wp2_with fail
    clear s0 s1 s2 s3 s4 s5
    refine (made15_any A n k M m d KN zs ms wb (HB.out.below L.out) hm).mono ?_
    rintro r v1 ⟨Mv1, dv1, rfl, hv1, bv1⟩
    have Hv1 := Lib.hid hv1
    have L_ := Lib.hid (L.out.trans (bv1.mono L.out.size))
    have KS_ := Lib.hid (kb_below KS.out bv1)
    have KT_ := Lib.hid (kb_below KT.out bv1)
    clear L KS KT
    have L := L_
    have KS := KS_
    have KT := KT_
    clear L_ KS_ KT_
    clear hv1 bv1
    go_wp2_with fail
    refine (krun_any A n k Mv1 m dv1 KN zs ms v1 Hv1.out hn hm).mono ?_
    rintro r v2 ⟨Av2, cv2, Mv2, dv2, rfl, hv2, ⟨fav2, fmv2⟩, bv2⟩
    have Hv2 := Lib.hid hv2
    have Nv2 : Hid (Fresh v1.heap.size Av2 ∧ Fresh v1.heap.size Mv2) := Lib.hid ⟨fav2, fmv2⟩
    have L_ := Lib.hid (L.out.trans (bv2.mono L.out.size))
    have KS_ := Lib.hid (kb_below KS.out bv2)
    have KT_ := Lib.hid (kb_below KT.out bv2)
    have Hv1_ := Lib.hid (Hv1.out.below bv2)
    clear L KS KT Hv1
    have L := L_
    have KS := KS_
    have KT := KT_
    have Hv1 := Hv1_
    clear L_ KS_ KT_ Hv1_
    clear hv2 fav2 fmv2 bv2
    go_upto_region 5 with fail
    have KA : Hid ((v2.alloc (.cells #[.slice Av2 n cv2, .slice Mv2 m dv2, .int .i64 KN.run.st, .int .i64 KN.run.sp, .int .i64 KN.run.ca, .int .u64 KN.run.tm] 36)).heap[v2.heap.size]? = some (kobj Av2 n cv2 Mv2 m dv2 KN.run)) := Lib.hid (heap_alloc_at v2 _)
    have bv3 : Below v2.heap.size v2 (v2.alloc (.cells #[.slice Av2 n cv2, .slice Mv2 m dv2, .int .i64 KN.run.st, .int .i64 KN.run.sp, .int .i64 KN.run.ca, .int .u64 KN.run.tm] 36)) := below_alloc v2 _
    have L_ := Lib.hid (L.out.trans (bv3.mono L.out.size))
    have KS_ := Lib.hid (kb_below KS.out bv3)
    have KT_ := Lib.hid (kb_below KT.out bv3)
    have Hv1_ := Lib.hid (Hv1.out.below bv3)
    have Hv2_ := Lib.hid (Hv2.out.below bv3)
    clear L KS KT Hv1 Hv2
    have L := L_
    have KS := KS_
    have KT := KT_
    have Hv1 := Hv1_
    have Hv2 := Hv2_
    clear L_ KS_ KT_ Hv1_ Hv2_
    clear bv3 Nv2
    generalize v2.alloc (.cells #[.slice Av2 n cv2, .slice Mv2 m dv2, .int .i64 KN.run.st, .int .i64 KN.run.sp, .int .i64 KN.run.ca, .int .u64 KN.run.tm] 36) = v3 at *
    generalize v2.heap.size = gv2 at *
    obtain ⟨s0, s1, s2, s3, s4, s5⟩ := kobj_cells KS.out
    try simp only at s2 s3 s4 s5
    go_wp2_with fail
    clear s0 s1 s2 s3 s4 s5
    refine (rrun15_any A n k M m d KN v3).mono ?_
    rintro r v4 ⟨rfl, bv4⟩
    have L_ := Lib.hid (L.out.trans (bv4.mono L.out.size))
    have KS_ := Lib.hid (kb_below KS.out bv4)
    have KT_ := Lib.hid (kb_below KT.out bv4)
    have KA_ := Lib.hid (kb_below KA.out bv4)
    have Hv1_ := Lib.hid (Hv1.out.below bv4)
    have Hv2_ := Lib.hid (Hv2.out.below bv4)
    clear L KS KT KA Hv1 Hv2
    have L := L_
    have KS := KS_
    have KT := KT_
    have KA := KA_
    have Hv1 := Hv1_
    have Hv2 := Hv2_
    clear L_ KS_ KT_ KA_ Hv1_ Hv2_
    clear bv4
    go_upto_region 6 with fail
    have KB2 : Hid ((v4.alloc (.cells #[.slice A n k, .slice M m d, .int .i64 KN.run.st, .int .i64 KN.run.sp, .int .i64 KN.run.ca, .int .u64 KN.run.tm] 28)).heap[v4.heap.size]? = some (vobj 28 (kvals A n k M m d KN.run))) := Lib.hid (heap_alloc_at v4 _)
    have bv5 : Below v4.heap.size v4 (v4.alloc (.cells #[.slice A n k, .slice M m d, .int .i64 KN.run.st, .int .i64 KN.run.sp, .int .i64 KN.run.ca, .int .u64 KN.run.tm] 28)) := below_alloc v4 _
    have L_ := Lib.hid (L.out.trans (bv5.mono L.out.size))
    have KS_ := Lib.hid (kb_below KS.out bv5)
    have KT_ := Lib.hid (kb_below KT.out bv5)
    have KA_ := Lib.hid (kb_below KA.out bv5)
    have Hv1_ := Lib.hid (Hv1.out.below bv5)
    have Hv2_ := Lib.hid (Hv2.out.below bv5)
    clear L KS KT KA Hv1 Hv2
    have L := L_
    have KS := KS_
    have KT := KT_
    have KA := KA_
    have Hv1 := Hv1_
    have Hv2 := Hv2_
    clear L_ KS_ KT_ KA_ Hv1_ Hv2_
    clear bv5
    generalize v4.alloc (.cells #[.slice A n k, .slice M m d, .int .i64 KN.run.st, .int .i64 KN.run.sp, .int .i64 KN.run.ca, .int .u64 KN.run.tm] 28) = v5 at *
    generalize v4.heap.size = gv4 at *
    go_cut [12, 13] (fun vx vx0 wq => ∃ (g : Nat) (A2 : Option Addr) (c2 : Nat) (M2 : Option Addr) (d2 : Nat), vx = .pointer (some ⟨g, 0, none⟩) ∧ vx0 = .bool (KN.fails y1) ∧ v5.heap.size ≤ g ∧ wq.heap[g]? = some (kobj A2 n c2 M2 m d2 (KN.fail y0 y1)) ∧ Bat wq A2 n c2 M2 m d2 zs ms ∧ Below v5.heap.size v5 wq)
    case first =>
      have DW : Hid (Below v5.heap.size v5 v5.drew) := Lib.hid (ali_below (drew_ali _))
      have KD : Hid (v5.drew.heap[w.heap.size]? = some (vobj 28 (kvals A n k M m d KN))) := Lib.hid KS.out
      have BD := Lib.hid (L.out.trans (DW.out.mono L.out.size))
      have KTD : Hid (v5.drew.heap[w.heap.size + 1]? = some (.cells #[.int .i64 y0, .int .i64 y1] 29)) := Lib.hid KT.out
      generalize hwd : v5.drew = wd at *
      have HWD := Lib.hid hwd
      have HS : Hid (∀ wx, Below wd.heap.size wd wx → wx.cell? ⟨w.heap.size, 0, none⟩ = some (.slice A n k) ∧ wx.cell? ⟨w.heap.size, 1, none⟩ = some (.slice M m d) ∧ wx.cell? ⟨w.heap.size, 2, none⟩ = some (.int .i64 KN.st) ∧ wx.cell? ⟨w.heap.size, 3, none⟩ = some (.int .i64 KN.sp) ∧ wx.cell? ⟨w.heap.size, 4, none⟩ = some (.int .i64 KN.ca) ∧ wx.cell? ⟨w.heap.size, 5, none⟩ = some (.int .u64 KN.tm) ∧ wx.cell? ⟨w.heap.size + 1, 0, none⟩ = some (.int .i64 y0) ∧ wx.cell? ⟨w.heap.size + 1, 1, none⟩ = some (.int .i64 y1)) := Lib.hid (fun wx hb => by obtain ⟨z0, z1, z2, z3, z4, z5⟩ := kobj_cells (kb_below KD.out hb); exact ⟨z0, z1, z2, z3, z4, z5, by rw [cell_of (kb_below KTD.out hb)]; rfl, by rw [cell_of (kb_below KTD.out hb)]; rfl⟩)
      have H1 : Hid (∀ wx, Below wd.heap.size wd wx → Calls Try.prog 15 #[callV A n k M m d KN] wx fun r w' => ∃ M' d', r = .returned (callV A n k M' m d' KN) ∧ Bat w' A n k M' m d' zs ms ∧ Below wx.heap.size wx w') := Lib.hid (fun wx hb => made15_any A n k M m d KN zs ms wx (HB.out.below (BD.out.trans (hb.mono BD.out.size))) hm)
      have H5 : Hid (∀ M' d' wx, Bat wx A n k M' m d' zs ms → Calls Try.prog 17 #[callV A n k M' m d' KN, .int .i64 y0, .int .i64 y1] wx fun r w' => ∃ A' c' M2 d2, r = .returned (.tuple #[callV A' n c' M2 m d2 (KN.fail y0 y1), .bool (KN.fails y1)]) ∧ Bat w' A' n c' M2 m d2 zs ms ∧ (Fresh wx.heap.size A' ∧ Fresh wx.heap.size M2) ∧ Below wx.heap.size wx w') := Lib.hid (fun M' d' wx h => kfail_any A n k M' m d' KN y0 y1 zs ms wx h hn hm HF.out.sp WY.out)
      have HFD : ∀ M' d' wx, (Instr.field 36 (callV A n k M' m d' KN) 0).run Try.prog wx = .ok (batV A n k M' m d') wx := fun _ _ _ => by kernel_rfl
      have Lwd : Hid (Below wd.heap.size wd wd) := Lib.hid (Below.refl _ _)
      clear hwd hn hm
      refine wp_region_held_drew (S := fun wx => wx.cell? ⟨w.heap.size, 0, none⟩ = some (.slice A n k) ∧ wx.cell? ⟨w.heap.size, 1, none⟩ = some (.slice M m d) ∧ wx.cell? ⟨w.heap.size, 2, none⟩ = some (.int .i64 KN.st) ∧ wx.cell? ⟨w.heap.size, 3, none⟩ = some (.int .i64 KN.sp) ∧ wx.cell? ⟨w.heap.size, 4, none⟩ = some (.int .i64 KN.ca) ∧ wx.cell? ⟨w.heap.size, 5, none⟩ = some (.int .u64 KN.tm) ∧ wx.cell? ⟨w.heap.size + 1, 0, none⟩ = some (.int .i64 y0) ∧ wx.cell? ⟨w.heap.size + 1, 1, none⟩ = some (.int .i64 y1)) (by kernel_rfl) (by rw [HWD.out]; exact HS.out _ Lwd.out) (fun hHeld => ?_)
      rw [HWD.out]
      rw [HWD.out] at hHeld
      refine wpAnyH_take (i := 0) (oi := ⟨_, _, _, _, _, _⟩) (v := ?_) rfl (by kernel_rfl) (by kernel_rfl) (by kernel_rfl) (fun _ _ _ h => h) (Or.inl ⟨by rfl, ?_⟩) (by assumption) ?_
      rotate_left
      · intro w hSw; (try dsimp only at hSw); go_simp; try (with_reducible rfl)
      try go_frame
      refine wpAnyH_take (i := 2) (oi := ⟨_, _, _, _, _, _⟩) (v := ?_) rfl (by kernel_rfl) (by kernel_rfl) (by kernel_rfl) (fun _ _ _ h => h) (Or.inl ⟨by rfl, ?_⟩) (by assumption) ?_
      rotate_left
      · intro w hSw; (try dsimp only at hSw); go_simp; try (with_reducible rfl)
      try go_frame
      refine wpAnyH_take (i := 3) (oi := ⟨_, _, _, _, _, _⟩) (v := ?_) rfl (by kernel_rfl) (by kernel_rfl) (by kernel_rfl) (fun _ _ _ h => h) (Or.inl ⟨by rfl, ?_⟩) (by assumption) ?_
      rotate_left
      · intro w hSw; (try dsimp only at hSw); go_simp; try (with_reducible rfl)
      try go_frame
      refine wpAnyH_take (i := 4) (oi := ⟨_, _, _, _, _, _⟩) (v := ?_) rfl (by kernel_rfl) (by kernel_rfl) (by kernel_rfl) (fun _ _ _ h => h) (Or.inl ⟨by rfl, ?_⟩) (by assumption) ?_
      rotate_left
      · intro w hSw; (try dsimp only at hSw); go_simp; try (with_reducible rfl)
      try go_frame
      refine wpAnyH_take (i := 5) (oi := ⟨_, _, _, _, _, _⟩) (v := ?_) rfl (by kernel_rfl) (by kernel_rfl) (by kernel_rfl) (fun _ _ _ h => h) (Or.inl ⟨by rfl, ?_⟩) (by assumption) ?_
      rotate_left
      · intro w hSw; (try dsimp only at hSw); go_simp; try (with_reducible rfl)
      try go_frame
      refine wpAnyH_ready (rs := [1, 10]) (by kernel_rfl) (by simp) ?_
      refine ready_cons (i := 1) (o := ⟨_, _, _, _, _, _⟩) rfl ?_ (ready_cons (i := 10) (o := ⟨_, _, _, _, _, _⟩) rfl ?_ AllReadyH.nil)
      · intro K hK
        refine call_step (f := 15) (args := #[callV A n k M m d KN]) rfl (by kernel_rfl) ?_
        refine (H1.out wd Lwd.out).mono ?_
        rintro r w1 ⟨M1, d1, rfl, g1, b1⟩
        refine ⟨_, rfl, ?_⟩
        have G1 := Lib.hid g1
        have Lw1 := Lib.hid (Lwd.out.trans (b1.mono Lwd.out.size))
        refine hK.out _ _ (HS.out _ Lw1.out) (fun hHeld => ?_)
        clear hK g1 b1
        try go_frame
        refine wpAnyH_ready (rs := [6, 10]) (by kernel_rfl) (by simp) ?_
        refine ready_cons (i := 6) (o := ⟨_, _, _, _, _, _⟩) rfl ?_ (ready_cons (i := 10) (o := ⟨_, _, _, _, _, _⟩) rfl ?_ AllReadyH.nil)
        · intro K hK
          refine call_step (f := 17) (args := #[callV A n k M1 m d1 KN, .int .i64 y0, .int .i64 y1]) rfl (by kernel_rfl) ?_
          refine (H5.out M1 d1 w1 G1.out).mono ?_
          rintro r w5 ⟨A2, c2, M2, d2, rfl, g5, ⟨fa, fm⟩, b5⟩
          refine ⟨_, rfl, ?_⟩
          have G5 := Lib.hid g5
          have Lw5 := Lib.hid (Lw1.out.trans (b5.mono Lw1.out.size))
          refine hK.out _ _ (HS.out _ Lw5.out) (fun hHeld => ?_)
          clear hK g5 b5 fa fm G1
          try go_frame
          refine wpAnyH_take (i := 7) (oi := ⟨_, _, _, _, _, _⟩) (v := ?_) rfl (by kernel_rfl) (by kernel_rfl) (by kernel_rfl) (fun _ _ _ h => h) (Or.inl ⟨by rfl, ?_⟩) (by assumption) ?_
          rotate_left
          · intro w hSw; (try dsimp only at hSw); go_simp; try (with_reducible rfl)
          try go_frame
          refine wpAnyH_take (i := 8) (oi := ⟨_, _, _, _, _, _⟩) (v := ?_) rfl (by kernel_rfl) (by kernel_rfl) (by kernel_rfl) (fun _ _ _ h => h) (Or.inl ⟨by rfl, ?_⟩) (by assumption) ?_
          rotate_left
          · intro w hSw; (try dsimp only at hSw); go_simp; try (with_reducible rfl)
          try go_frame
          refine wpAnyH_take (i := 9) (oi := ⟨_, _, _, _, _, _⟩) (v := ?_) rfl (by kernel_rfl) (by kernel_rfl) (by kernel_rfl) (fun _ _ _ h => h) (Or.inl ⟨by rfl, ?_⟩) (by assumption) ?_
          rotate_left
          · intro w hSw; (try dsimp only at hSw); go_simp; try (with_reducible rfl)
          try go_frame
          refine wpAnyH_ready (rs := [10]) (by kernel_rfl) (by simp) ?_
          refine ready_cons (i := 10) (o := ⟨_, _, _, _, _, _⟩) rfl ?_ AllReadyH.nil
          intro K hK
          constructor
          go_simp
          have KX : Hid ((w5.alloc (.cells #[.slice none 0 0, .slice none 0 0, .int .i64 0, .int .i64 0, .int .i64 0, .int .u64 0] 36)).heap[w5.heap.size]? = some (kobj none 0 0 none 0 0 ⟨0, 0, 0, 0⟩)) := Lib.hid (heap_alloc_at w5 _)
          have Lw6 : Hid (Below wd.heap.size wd (w5.alloc (.cells #[.slice none 0 0, .slice none 0 0, .int .i64 0, .int .i64 0, .int .i64 0, .int .u64 0] 36))) := Lib.hid (Lw5.out.alloc Lw5.out.size _)
          have GX : Hid (wd.heap.size ≤ w5.heap.size) := Lib.hid Lw5.out.size
          have OF : Hid ((∀ b off, A2 = some ⟨b, off, none⟩ → 0 < n → b ≠ w5.heap.size) ∧ (∀ b off, M2 = some ⟨b, off, none⟩ → 0 < m → b ≠ w5.heap.size)) := Lib.hid ⟨fun b off e h0 => Nat.ne_of_lt (G5.out.ar.lt e h0), fun b off e h0 => Nat.ne_of_lt (G5.out.mr.lt e h0)⟩
          have G6 := Lib.hid (G5.out.below (below_alloc w5 (.cells #[.slice none 0 0, .slice none 0 0, .int .i64 0, .int .i64 0, .int .i64 0, .int .u64 0] 36)))
          have G5 := G6
          clear G6
          refine hK.out _ _ (HS.out _ Lw6.out) (fun hHeld => ?_)
          clear hK
          generalize w5.alloc (.cells #[.slice none 0 0, .slice none 0 0, .int .i64 0, .int .i64 0, .int .i64 0, .int .u64 0] 36) = w6 at *
          generalize hgx : w5.heap.size = g at *
          clear hgx
          try go_frame
          refine wpAnyH_ready (rs := [11]) (by kernel_rfl) (by simp) ?_
          refine ready_cons (i := 11) (o := ⟨_, _, _, _, _, _⟩) rfl ?_ AllReadyH.nil
          intro K hK
          refine store_step rfl 36 _ _ rfl g 0 36 (kvals none 0 0 none 0 0 ⟨0, 0, 0, 0⟩) (kvals A2 n c2 M2 m d2 (KN.fail y0 y1)) rfl rfl KX.out (Nat.le_refl _) sizeK (onesK _ _ _ _ _ _ _) ?_
          intro w7 k7 f7 z7
          clear z7
          have K7 := Lib.hid k7
          have F7 := Lib.hid f7
          have L7 : Hid (Below wd.heap.size wd w7) := Lib.hid (Lw6.out.trans (f7.below Lw6.out.size (fun j hj e => by have := GX.out; omega)))
          have H7 : Hid (Bat w7 A2 n c2 M2 m d2 zs ms) := Lib.hid ⟨G5.out.ar.apart f7 (fun b off e h0 hx => OF.out.1 b off e h0 hx), G5.out.mr.apart f7 (fun b off e h0 hx => OF.out.2 b off e h0 hx), G5.out.nc, G5.out.md, G5.out.fits⟩
          refine hK.out _ _ (HS.out _ L7.out) (fun hHeld => ?_)
          clear hK k7 f7
          try go_frame
          refine wpAnyH_take (i := 12) (oi := ⟨_, _, _, _, _, _⟩) (v := ?_) rfl (by kernel_rfl) (by kernel_rfl) (by kernel_rfl) (fun _ _ _ h => h) (Or.inl ⟨by rfl, ?_⟩) (by assumption) ?_
          rotate_left
          · intro w hSw; (try dsimp only at hSw); go_simp; try (with_reducible rfl)
          try go_frame
          refine wpAnyH_done (by kernel_rfl) ?_ _
          go_wp2
          go_meet
          exact ⟨g, A2, c2, M2, d2, rfl, rfl, Nat.le_trans DW.out.size GX.out, K7.out, H7.out, DW.out.trans (L7.out.mono DW.out.size)⟩
        · intro K hK
          constructor
          go_simp
          have KX : Hid ((w1.alloc (.cells #[.slice none 0 0, .slice none 0 0, .int .i64 0, .int .i64 0, .int .i64 0, .int .u64 0] 36)).heap[w1.heap.size]? = some (kobj none 0 0 none 0 0 ⟨0, 0, 0, 0⟩)) := Lib.hid (heap_alloc_at w1 _)
          have Lw6 : Hid (Below wd.heap.size wd (w1.alloc (.cells #[.slice none 0 0, .slice none 0 0, .int .i64 0, .int .i64 0, .int .i64 0, .int .u64 0] 36))) := Lib.hid (Lw1.out.alloc Lw1.out.size _)
          have GX : Hid (wd.heap.size ≤ w1.heap.size) := Lib.hid Lw1.out.size
          have G6 := Lib.hid (G1.out.below (below_alloc w1 (.cells #[.slice none 0 0, .slice none 0 0, .int .i64 0, .int .i64 0, .int .i64 0, .int .u64 0] 36)))
          have G1 := G6
          clear G6
          refine hK.out _ _ (HS.out _ Lw6.out) (fun hHeld => ?_)
          clear hK
          generalize w1.alloc (.cells #[.slice none 0 0, .slice none 0 0, .int .i64 0, .int .i64 0, .int .i64 0, .int .u64 0] 36) = w6 at *
          generalize hgx : w1.heap.size = g at *
          clear hgx
          try go_frame
          refine wpAnyH_ready (rs := [6]) (by kernel_rfl) (by simp) ?_
          refine ready_cons (i := 6) (o := ⟨_, _, _, _, _, _⟩) rfl ?_ AllReadyH.nil
          intro K hK
          refine call_step (f := 17) (args := #[callV A n k M1 m d1 KN, .int .i64 y0, .int .i64 y1]) rfl (by kernel_rfl) ?_
          refine (H5.out M1 d1 w6 G1.out).mono ?_
          rintro r w5 ⟨A2, c2, M2, d2, rfl, g5, ⟨fa, fm⟩, b5⟩
          refine ⟨_, rfl, ?_⟩
          have G5 := Lib.hid g5
          have Lw5 := Lib.hid (Lw6.out.trans (b5.mono Lw6.out.size))
          have OF : Hid ((∀ b off, A2 = some ⟨b, off, none⟩ → 0 < n → b ≠ g) ∧ (∀ b off, M2 = some ⟨b, off, none⟩ → 0 < m → b ≠ g)) := Lib.hid ⟨fun b off e _ => by have := fa b off e; have := heap_lt KX.out; omega, fun b off e _ => by have := fm b off e; have := heap_lt KX.out; omega⟩
          have KX1 := Lib.hid (kb_below KX.out b5)
          have KX := KX1
          clear KX1
          refine hK.out _ _ (HS.out _ Lw5.out) (fun hHeld => ?_)
          clear hK g5 b5 fa fm G1
          try go_frame
          refine wpAnyH_take (i := 7) (oi := ⟨_, _, _, _, _, _⟩) (v := ?_) rfl (by kernel_rfl) (by kernel_rfl) (by kernel_rfl) (fun _ _ _ h => h) (Or.inl ⟨by rfl, ?_⟩) (by assumption) ?_
          rotate_left
          · intro w hSw; (try dsimp only at hSw); go_simp; try (with_reducible rfl)
          try go_frame
          refine wpAnyH_take (i := 8) (oi := ⟨_, _, _, _, _, _⟩) (v := ?_) rfl (by kernel_rfl) (by kernel_rfl) (by kernel_rfl) (fun _ _ _ h => h) (Or.inl ⟨by rfl, ?_⟩) (by assumption) ?_
          rotate_left
          · intro w hSw; (try dsimp only at hSw); go_simp; try (with_reducible rfl)
          try go_frame
          refine wpAnyH_take (i := 9) (oi := ⟨_, _, _, _, _, _⟩) (v := ?_) rfl (by kernel_rfl) (by kernel_rfl) (by kernel_rfl) (fun _ _ _ h => h) (Or.inl ⟨by rfl, ?_⟩) (by assumption) ?_
          rotate_left
          · intro w hSw; (try dsimp only at hSw); go_simp; try (with_reducible rfl)
          try go_frame
          refine wpAnyH_ready (rs := [11]) (by kernel_rfl) (by simp) ?_
          refine ready_cons (i := 11) (o := ⟨_, _, _, _, _, _⟩) rfl ?_ AllReadyH.nil
          intro K hK
          refine store_step rfl 36 _ _ rfl g 0 36 (kvals none 0 0 none 0 0 ⟨0, 0, 0, 0⟩) (kvals A2 n c2 M2 m d2 (KN.fail y0 y1)) rfl rfl KX.out (Nat.le_refl _) sizeK (onesK _ _ _ _ _ _ _) ?_
          intro w7 k7 f7 z7
          clear z7
          have K7 := Lib.hid k7
          have F7 := Lib.hid f7
          have L7 : Hid (Below wd.heap.size wd w7) := Lib.hid (Lw5.out.trans (f7.below Lw5.out.size (fun j hj e => by have := GX.out; omega)))
          have H7 : Hid (Bat w7 A2 n c2 M2 m d2 zs ms) := Lib.hid ⟨G5.out.ar.apart f7 (fun b off e h0 hx => OF.out.1 b off e h0 hx), G5.out.mr.apart f7 (fun b off e h0 hx => OF.out.2 b off e h0 hx), G5.out.nc, G5.out.md, G5.out.fits⟩
          refine hK.out _ _ (HS.out _ L7.out) (fun hHeld => ?_)
          clear hK k7 f7
          try go_frame
          refine wpAnyH_take (i := 12) (oi := ⟨_, _, _, _, _, _⟩) (v := ?_) rfl (by kernel_rfl) (by kernel_rfl) (by kernel_rfl) (fun _ _ _ h => h) (Or.inl ⟨by rfl, ?_⟩) (by assumption) ?_
          rotate_left
          · intro w hSw; (try dsimp only at hSw); go_simp; try (with_reducible rfl)
          try go_frame
          refine wpAnyH_done (by kernel_rfl) ?_ _
          go_wp2
          go_meet
          exact ⟨g, A2, c2, M2, d2, rfl, rfl, Nat.le_trans DW.out.size GX.out, K7.out, H7.out, DW.out.trans (L7.out.mono DW.out.size)⟩
      · intro K hK
        constructor
        go_simp
        have KX : Hid ((wd.alloc (.cells #[.slice none 0 0, .slice none 0 0, .int .i64 0, .int .i64 0, .int .i64 0, .int .u64 0] 36)).heap[wd.heap.size]? = some (kobj none 0 0 none 0 0 ⟨0, 0, 0, 0⟩)) := Lib.hid (heap_alloc_at wd _)
        have Lw6 : Hid (Below wd.heap.size wd (wd.alloc (.cells #[.slice none 0 0, .slice none 0 0, .int .i64 0, .int .i64 0, .int .i64 0, .int .u64 0] 36))) := Lib.hid (Lwd.out.alloc Lwd.out.size _)
        have GX : Hid (wd.heap.size ≤ wd.heap.size) := Lib.hid Lwd.out.size
        refine hK.out _ _ (HS.out _ Lw6.out) (fun hHeld => ?_)
        clear hK
        generalize wd.alloc (.cells #[.slice none 0 0, .slice none 0 0, .int .i64 0, .int .i64 0, .int .i64 0, .int .u64 0] 36) = w6 at *
        obtain ⟨g, hg⟩ : ∃ g, wd.heap.size = g := ⟨_, rfl⟩
        rw [hg] at KX
        clear GX
        have GX : Hid (wd.heap.size ≤ g) := Lib.hid (Nat.le_of_eq hg)
        try rw [hg]
        clear hg
        try go_frame
        refine wpAnyH_ready (rs := [1]) (by kernel_rfl) (by simp) ?_
        refine ready_cons (i := 1) (o := ⟨_, _, _, _, _, _⟩) rfl ?_ AllReadyH.nil
        intro K hK
        refine call_step (f := 15) (args := #[callV A n k M m d KN]) rfl (by kernel_rfl) ?_
        refine (H1.out w6 Lw6.out).mono ?_
        rintro r w1 ⟨M1, d1, rfl, g1, b1⟩
        refine ⟨_, rfl, ?_⟩
        have G1 := Lib.hid g1
        have Lw1 := Lib.hid (Lw6.out.trans (b1.mono Lw6.out.size))
        have KX1 := Lib.hid (kb_below KX.out b1)
        have KX := KX1
        clear KX1
        refine hK.out _ _ (HS.out _ Lw1.out) (fun hHeld => ?_)
        clear hK g1 b1
        try go_frame
        refine wpAnyH_ready (rs := [6]) (by kernel_rfl) (by simp) ?_
        refine ready_cons (i := 6) (o := ⟨_, _, _, _, _, _⟩) rfl ?_ AllReadyH.nil
        intro K hK
        refine call_step (f := 17) (args := #[callV A n k M1 m d1 KN, .int .i64 y0, .int .i64 y1]) rfl (by kernel_rfl) ?_
        refine (H5.out M1 d1 w1 G1.out).mono ?_
        rintro r w5 ⟨A2, c2, M2, d2, rfl, g5, ⟨fa, fm⟩, b5⟩
        refine ⟨_, rfl, ?_⟩
        have G5 := Lib.hid g5
        have Lw5 := Lib.hid (Lw1.out.trans (b5.mono Lw1.out.size))
        have OF : Hid ((∀ b off, A2 = some ⟨b, off, none⟩ → 0 < n → b ≠ g) ∧ (∀ b off, M2 = some ⟨b, off, none⟩ → 0 < m → b ≠ g)) := Lib.hid ⟨fun b off e _ => by have := fa b off e; have := heap_lt KX.out; omega, fun b off e _ => by have := fm b off e; have := heap_lt KX.out; omega⟩
        have KX1 := Lib.hid (kb_below KX.out b5)
        have KX := KX1
        clear KX1
        refine hK.out _ _ (HS.out _ Lw5.out) (fun hHeld => ?_)
        clear hK g5 b5 fa fm G1
        try go_frame
        refine wpAnyH_take (i := 7) (oi := ⟨_, _, _, _, _, _⟩) (v := ?_) rfl (by kernel_rfl) (by kernel_rfl) (by kernel_rfl) (fun _ _ _ h => h) (Or.inl ⟨by rfl, ?_⟩) (by assumption) ?_
        rotate_left
        · intro w hSw; (try dsimp only at hSw); go_simp; try (with_reducible rfl)
        try go_frame
        refine wpAnyH_take (i := 8) (oi := ⟨_, _, _, _, _, _⟩) (v := ?_) rfl (by kernel_rfl) (by kernel_rfl) (by kernel_rfl) (fun _ _ _ h => h) (Or.inl ⟨by rfl, ?_⟩) (by assumption) ?_
        rotate_left
        · intro w hSw; (try dsimp only at hSw); go_simp; try (with_reducible rfl)
        try go_frame
        refine wpAnyH_take (i := 9) (oi := ⟨_, _, _, _, _, _⟩) (v := ?_) rfl (by kernel_rfl) (by kernel_rfl) (by kernel_rfl) (fun _ _ _ h => h) (Or.inl ⟨by rfl, ?_⟩) (by assumption) ?_
        rotate_left
        · intro w hSw; (try dsimp only at hSw); go_simp; try (with_reducible rfl)
        try go_frame
        refine wpAnyH_ready (rs := [11]) (by kernel_rfl) (by simp) ?_
        refine ready_cons (i := 11) (o := ⟨_, _, _, _, _, _⟩) rfl ?_ AllReadyH.nil
        intro K hK
        refine store_step rfl 36 _ _ rfl g 0 36 (kvals none 0 0 none 0 0 ⟨0, 0, 0, 0⟩) (kvals A2 n c2 M2 m d2 (KN.fail y0 y1)) rfl rfl KX.out (Nat.le_refl _) sizeK (onesK _ _ _ _ _ _ _) ?_
        intro w7 k7 f7 z7
        clear z7
        have K7 := Lib.hid k7
        have F7 := Lib.hid f7
        have L7 : Hid (Below wd.heap.size wd w7) := Lib.hid (Lw5.out.trans (f7.below Lw5.out.size (fun j hj e => by have := GX.out; omega)))
        have H7 : Hid (Bat w7 A2 n c2 M2 m d2 zs ms) := Lib.hid ⟨G5.out.ar.apart f7 (fun b off e h0 hx => OF.out.1 b off e h0 hx), G5.out.mr.apart f7 (fun b off e h0 hx => OF.out.2 b off e h0 hx), G5.out.nc, G5.out.md, G5.out.fits⟩
        refine hK.out _ _ (HS.out _ L7.out) (fun hHeld => ?_)
        clear hK k7 f7
        try go_frame
        refine wpAnyH_take (i := 12) (oi := ⟨_, _, _, _, _, _⟩) (v := ?_) rfl (by kernel_rfl) (by kernel_rfl) (by kernel_rfl) (fun _ _ _ h => h) (Or.inl ⟨by rfl, ?_⟩) (by assumption) ?_
        rotate_left
        · intro w hSw; (try dsimp only at hSw); go_simp; try (with_reducible rfl)
        try go_frame
        refine wpAnyH_done (by kernel_rfl) ?_ _
        go_wp2
        go_meet
        exact ⟨g, A2, c2, M2, d2, rfl, rfl, Nat.le_trans DW.out.size GX.out, K7.out, H7.out, DW.out.trans (L7.out.mono DW.out.size)⟩
    case rest =>
      obtain ⟨g, A2, c2, M2, d2, rfl, rfl, hg, hk, hh, hl⟩ := hcut
      have GG := Lib.hid hg
      have KG := Lib.hid hk
      have HG := Lib.hid hh
      have LG := Lib.hid hl
      clear hg hk hh hl
      have KS_ := Lib.hid (kb_below KS.out LG.out)
      have KT_ := Lib.hid (kb_below KT.out LG.out)
      have KA_ := Lib.hid (kb_below KA.out LG.out)
      have KB2_ := Lib.hid (kb_below KB2.out LG.out)
      have Hv2_ := Lib.hid (Hv2.out.below LG.out)
      have L_ := Lib.hid (L.out.trans (LG.out.mono L.out.size))
      clear L KS KT KA KB2 Hv2
      have L := L_
      have KS := KS_
      have KT := KT_
      have KA := KA_
      have KB2 := KB2_
      have Hv2 := Hv2_
      clear L_ KS_ KT_ KA_ KB2_ Hv2_
      clear LG GG
      obtain ⟨s0, s1, s2, s3, s4, s5⟩ := kobj_cells KS.out
      try simp only at s2 s3 s4 s5
      have t0 : wc.cell? ⟨w.heap.size + 1, 0, none⟩ = some (.int .i64 y0) := by rw [cell_of KT.out]; rfl
      have t1 : wc.cell? ⟨w.heap.size + 1, 1, none⟩ = some (.int .i64 y1) := by rw [cell_of KT.out]; rfl
      go_wp2_with fail
      clear s0 s1 s2 s3 s4 s5 t0 t1
      refine (rfail15_any A n k M m d KN y0 y1 wc HF.out.sp WY.out).mono ?_
      rintro r v6 ⟨rfl, bv6⟩
      have L_ := Lib.hid (L.out.trans (bv6.mono L.out.size))
      have KS_ := Lib.hid (kb_below KS.out bv6)
      have KT_ := Lib.hid (kb_below KT.out bv6)
      have KA_ := Lib.hid (kb_below KA.out bv6)
      have KB2_ := Lib.hid (kb_below KB2.out bv6)
      have KG_ := Lib.hid (kb_below KG.out bv6)
      have Hv2_ := Lib.hid (Hv2.out.below bv6)
      have HG_ := Lib.hid (HG.out.below bv6)
      clear L KS KT KA KB2 KG Hv2 HG
      have L := L_
      have KS := KS_
      have KT := KT_
      have KA := KA_
      have KB2 := KB2_
      have KG := KG_
      have Hv2 := Hv2_
      have HG := HG_
      clear L_ KS_ KT_ KA_ KB2_ KG_ Hv2_ HG_
      clear bv6
      go_upto_region 8 with fail
      have KE : Hid ((v6.alloc (.cells #[.slice A n k, .slice M m d, .int .i64 (KN.fail y0 y1).st, .int .i64 (KN.fail y0 y1).sp, .int .i64 (KN.fail y0 y1).ca, .int .u64 (KN.fail y0 y1).tm] 28)).heap[v6.heap.size]? = some (vobj 28 (kvals A n k M m d (KN.fail y0 y1)))) := Lib.hid (heap_alloc_at v6 _)
      have bv7 : Below v6.heap.size v6 (v6.alloc (.cells #[.slice A n k, .slice M m d, .int .i64 (KN.fail y0 y1).st, .int .i64 (KN.fail y0 y1).sp, .int .i64 (KN.fail y0 y1).ca, .int .u64 (KN.fail y0 y1).tm] 28)) := below_alloc v6 _
      have L_ := Lib.hid (L.out.trans (bv7.mono L.out.size))
      have KS_ := Lib.hid (kb_below KS.out bv7)
      have KT_ := Lib.hid (kb_below KT.out bv7)
      have KA_ := Lib.hid (kb_below KA.out bv7)
      have KB2_ := Lib.hid (kb_below KB2.out bv7)
      have KG_ := Lib.hid (kb_below KG.out bv7)
      have Hv2_ := Lib.hid (Hv2.out.below bv7)
      have HG_ := Lib.hid (HG.out.below bv7)
      clear L KS KT KA KB2 KG Hv2 HG
      have L := L_
      have KS := KS_
      have KT := KT_
      have KA := KA_
      have KB2 := KB2_
      have KG := KG_
      have Hv2 := Hv2_
      have HG := HG_
      clear L_ KS_ KT_ KA_ KB2_ KG_ Hv2_ HG_
      clear bv7
      generalize v6.alloc (.cells #[.slice A n k, .slice M m d, .int .i64 (KN.fail y0 y1).st, .int .i64 (KN.fail y0 y1).sp, .int .i64 (KN.fail y0 y1).ca, .int .u64 (KN.fail y0 y1).tm] 28) = v7 at *
      generalize v6.heap.size = gv6 at *
      obtain ⟨s0, s1, s2, s3, s4, s5⟩ := kobj_cells KS.out
      try simp only at s2 s3 s4 s5
      go_wp2_with fail
      clear s0 s1 s2 s3 s4 s5
      refine (made15_any A n k M m d KN zs ms v7 (HB.out.below L.out) hm).mono ?_
      rintro r v8 ⟨Mv8, dv8, rfl, hv8, bv8⟩
      have Hv8 := Lib.hid hv8
      have L_ := Lib.hid (L.out.trans (bv8.mono L.out.size))
      have KS_ := Lib.hid (kb_below KS.out bv8)
      have KT_ := Lib.hid (kb_below KT.out bv8)
      have KA_ := Lib.hid (kb_below KA.out bv8)
      have KB2_ := Lib.hid (kb_below KB2.out bv8)
      have KG_ := Lib.hid (kb_below KG.out bv8)
      have KE_ := Lib.hid (kb_below KE.out bv8)
      have Hv2_ := Lib.hid (Hv2.out.below bv8)
      have HG_ := Lib.hid (HG.out.below bv8)
      clear L KS KT KA KB2 KG KE Hv2 HG
      have L := L_
      have KS := KS_
      have KT := KT_
      have KA := KA_
      have KB2 := KB2_
      have KG := KG_
      have KE := KE_
      have Hv2 := Hv2_
      have HG := HG_
      clear L_ KS_ KT_ KA_ KB2_ KG_ KE_ Hv2_ HG_
      clear hv8 bv8
      go_wp2_with fail
      refine (kend_any A n k Mv8 m dv8 KN zs ms v8 Hv8.out hn hm).mono ?_
      rintro r v9 ⟨Av9, cv9, Mv9, dv9, rfl, hv9, ⟨fav9, fmv9⟩, bv9⟩
      have Hv9 := Lib.hid hv9
      have Nv9 : Hid (Fresh v8.heap.size Av9 ∧ Fresh v8.heap.size Mv9) := Lib.hid ⟨fav9, fmv9⟩
      have L_ := Lib.hid (L.out.trans (bv9.mono L.out.size))
      have KS_ := Lib.hid (kb_below KS.out bv9)
      have KT_ := Lib.hid (kb_below KT.out bv9)
      have KA_ := Lib.hid (kb_below KA.out bv9)
      have KB2_ := Lib.hid (kb_below KB2.out bv9)
      have KG_ := Lib.hid (kb_below KG.out bv9)
      have KE_ := Lib.hid (kb_below KE.out bv9)
      have Hv2_ := Lib.hid (Hv2.out.below bv9)
      have HG_ := Lib.hid (HG.out.below bv9)
      have Hv8_ := Lib.hid (Hv8.out.below bv9)
      clear L KS KT KA KB2 KG KE Hv2 HG Hv8
      have L := L_
      have KS := KS_
      have KT := KT_
      have KA := KA_
      have KB2 := KB2_
      have KG := KG_
      have KE := KE_
      have Hv2 := Hv2_
      have HG := HG_
      have Hv8 := Hv8_
      clear L_ KS_ KT_ KA_ KB2_ KG_ KE_ Hv2_ HG_ Hv8_
      clear hv9 fav9 fmv9 bv9
      go_upto_region 9 with fail
      have KF : Hid ((v9.alloc (.cells #[.slice Av9 n cv9, .slice Mv9 m dv9, .int .i64 KN.fin.st, .int .i64 KN.fin.sp, .int .i64 KN.fin.ca, .int .u64 KN.fin.tm] 36)).heap[v9.heap.size]? = some (kobj Av9 n cv9 Mv9 m dv9 KN.fin)) := Lib.hid (heap_alloc_at v9 _)
      have bv10 : Below v9.heap.size v9 (v9.alloc (.cells #[.slice Av9 n cv9, .slice Mv9 m dv9, .int .i64 KN.fin.st, .int .i64 KN.fin.sp, .int .i64 KN.fin.ca, .int .u64 KN.fin.tm] 36)) := below_alloc v9 _
      have L_ := Lib.hid (L.out.trans (bv10.mono L.out.size))
      have KS_ := Lib.hid (kb_below KS.out bv10)
      have KT_ := Lib.hid (kb_below KT.out bv10)
      have KA_ := Lib.hid (kb_below KA.out bv10)
      have KB2_ := Lib.hid (kb_below KB2.out bv10)
      have KG_ := Lib.hid (kb_below KG.out bv10)
      have KE_ := Lib.hid (kb_below KE.out bv10)
      have Hv2_ := Lib.hid (Hv2.out.below bv10)
      have HG_ := Lib.hid (HG.out.below bv10)
      have Hv8_ := Lib.hid (Hv8.out.below bv10)
      have Hv9_ := Lib.hid (Hv9.out.below bv10)
      clear L KS KT KA KB2 KG KE Hv2 HG Hv8 Hv9
      have L := L_
      have KS := KS_
      have KT := KT_
      have KA := KA_
      have KB2 := KB2_
      have KG := KG_
      have KE := KE_
      have Hv2 := Hv2_
      have HG := HG_
      have Hv8 := Hv8_
      have Hv9 := Hv9_
      clear L_ KS_ KT_ KA_ KB2_ KG_ KE_ Hv2_ HG_ Hv8_ Hv9_
      clear bv10 Nv9
      generalize v9.alloc (.cells #[.slice Av9 n cv9, .slice Mv9 m dv9, .int .i64 KN.fin.st, .int .i64 KN.fin.sp, .int .i64 KN.fin.ca, .int .u64 KN.fin.tm] 36) = v10 at *
      generalize v9.heap.size = gv9 at *
      obtain ⟨s0, s1, s2, s3, s4, s5⟩ := kobj_cells KS.out
      try simp only at s2 s3 s4 s5
      go_wp2_with fail
      clear s0 s1 s2 s3 s4 s5
      refine (rend15_any A n k M m d KN v10).mono ?_
      rintro r v11 ⟨rfl, bv11⟩
      have L_ := Lib.hid (L.out.trans (bv11.mono L.out.size))
      have KS_ := Lib.hid (kb_below KS.out bv11)
      have KT_ := Lib.hid (kb_below KT.out bv11)
      have KA_ := Lib.hid (kb_below KA.out bv11)
      have KB2_ := Lib.hid (kb_below KB2.out bv11)
      have KG_ := Lib.hid (kb_below KG.out bv11)
      have KE_ := Lib.hid (kb_below KE.out bv11)
      have KF_ := Lib.hid (kb_below KF.out bv11)
      have Hv2_ := Lib.hid (Hv2.out.below bv11)
      have HG_ := Lib.hid (HG.out.below bv11)
      have Hv8_ := Lib.hid (Hv8.out.below bv11)
      have Hv9_ := Lib.hid (Hv9.out.below bv11)
      clear L KS KT KA KB2 KG KE KF Hv2 HG Hv8 Hv9
      have L := L_
      have KS := KS_
      have KT := KT_
      have KA := KA_
      have KB2 := KB2_
      have KG := KG_
      have KE := KE_
      have KF := KF_
      have Hv2 := Hv2_
      have HG := HG_
      have Hv8 := Hv8_
      have Hv9 := Hv9_
      clear L_ KS_ KT_ KA_ KB2_ KG_ KE_ KF_ Hv2_ HG_ Hv8_ Hv9_
      clear bv11
      go_upto_region 10 with fail
      have KH : Hid ((v11.alloc (.cells #[.slice A n k, .slice M m d, .int .i64 KN.fin.st, .int .i64 KN.fin.sp, .int .i64 KN.fin.ca, .int .u64 KN.fin.tm] 28)).heap[v11.heap.size]? = some (vobj 28 (kvals A n k M m d KN.fin))) := Lib.hid (heap_alloc_at v11 _)
      have bv12 : Below v11.heap.size v11 (v11.alloc (.cells #[.slice A n k, .slice M m d, .int .i64 KN.fin.st, .int .i64 KN.fin.sp, .int .i64 KN.fin.ca, .int .u64 KN.fin.tm] 28)) := below_alloc v11 _
      have L_ := Lib.hid (L.out.trans (bv12.mono L.out.size))
      have KS_ := Lib.hid (kb_below KS.out bv12)
      have KT_ := Lib.hid (kb_below KT.out bv12)
      have KA_ := Lib.hid (kb_below KA.out bv12)
      have KB2_ := Lib.hid (kb_below KB2.out bv12)
      have KG_ := Lib.hid (kb_below KG.out bv12)
      have KE_ := Lib.hid (kb_below KE.out bv12)
      have KF_ := Lib.hid (kb_below KF.out bv12)
      have Hv2_ := Lib.hid (Hv2.out.below bv12)
      have HG_ := Lib.hid (HG.out.below bv12)
      have Hv8_ := Lib.hid (Hv8.out.below bv12)
      have Hv9_ := Lib.hid (Hv9.out.below bv12)
      clear L KS KT KA KB2 KG KE KF Hv2 HG Hv8 Hv9
      have L := L_
      have KS := KS_
      have KT := KT_
      have KA := KA_
      have KB2 := KB2_
      have KG := KG_
      have KE := KE_
      have KF := KF_
      have Hv2 := Hv2_
      have HG := HG_
      have Hv8 := Hv8_
      have Hv9 := Hv9_
      clear L_ KS_ KT_ KA_ KB2_ KG_ KE_ KF_ Hv2_ HG_ Hv8_ Hv9_
      clear bv12
      generalize v11.alloc (.cells #[.slice A n k, .slice M m d, .int .i64 KN.fin.st, .int .i64 KN.fin.sp, .int .i64 KN.fin.ca, .int .u64 KN.fin.tm] 28) = v12 at *
      generalize v11.heap.size = gv11 at *
      have HS : Hid (∀ wx, Below v12.heap.size v12 wx → (wx.cell? ⟨w.heap.size, 0, none⟩ = some (.slice A n k) ∧ wx.cell? ⟨w.heap.size, 1, none⟩ = some (.slice M m d) ∧ wx.cell? ⟨w.heap.size, 2, none⟩ = some (.int .i64 KN.st) ∧ wx.cell? ⟨w.heap.size, 3, none⟩ = some (.int .i64 KN.sp) ∧ wx.cell? ⟨w.heap.size, 4, none⟩ = some (.int .i64 KN.ca) ∧ wx.cell? ⟨w.heap.size, 5, none⟩ = some (.int .u64 KN.tm)) ∧ (wx.cell? ⟨gv2, 0, none⟩ = some (.slice Av2 n cv2) ∧ wx.cell? ⟨gv2, 1, none⟩ = some (.slice Mv2 m dv2) ∧ wx.cell? ⟨gv2, 2, none⟩ = some (.int .i64 KN.run.st) ∧ wx.cell? ⟨gv2, 3, none⟩ = some (.int .i64 KN.run.sp) ∧ wx.cell? ⟨gv2, 4, none⟩ = some (.int .i64 KN.run.ca) ∧ wx.cell? ⟨gv2, 5, none⟩ = some (.int .u64 KN.run.tm)) ∧ (wx.cell? ⟨gv4, 0, none⟩ = some (.slice A n k) ∧ wx.cell? ⟨gv4, 1, none⟩ = some (.slice M m d) ∧ wx.cell? ⟨gv4, 2, none⟩ = some (.int .i64 KN.run.st) ∧ wx.cell? ⟨gv4, 3, none⟩ = some (.int .i64 KN.run.sp) ∧ wx.cell? ⟨gv4, 4, none⟩ = some (.int .i64 KN.run.ca) ∧ wx.cell? ⟨gv4, 5, none⟩ = some (.int .u64 KN.run.tm)) ∧ (wx.cell? ⟨g, 0, none⟩ = some (.slice A2 n c2) ∧ wx.cell? ⟨g, 1, none⟩ = some (.slice M2 m d2) ∧ wx.cell? ⟨g, 2, none⟩ = some (.int .i64 (KN.fail y0 y1).st) ∧ wx.cell? ⟨g, 3, none⟩ = some (.int .i64 (KN.fail y0 y1).sp) ∧ wx.cell? ⟨g, 4, none⟩ = some (.int .i64 (KN.fail y0 y1).ca) ∧ wx.cell? ⟨g, 5, none⟩ = some (.int .u64 (KN.fail y0 y1).tm)) ∧ (wx.cell? ⟨gv6, 0, none⟩ = some (.slice A n k) ∧ wx.cell? ⟨gv6, 1, none⟩ = some (.slice M m d) ∧ wx.cell? ⟨gv6, 2, none⟩ = some (.int .i64 (KN.fail y0 y1).st) ∧ wx.cell? ⟨gv6, 3, none⟩ = some (.int .i64 (KN.fail y0 y1).sp) ∧ wx.cell? ⟨gv6, 4, none⟩ = some (.int .i64 (KN.fail y0 y1).ca) ∧ wx.cell? ⟨gv6, 5, none⟩ = some (.int .u64 (KN.fail y0 y1).tm)) ∧ (wx.cell? ⟨gv9, 0, none⟩ = some (.slice Av9 n cv9) ∧ wx.cell? ⟨gv9, 1, none⟩ = some (.slice Mv9 m dv9) ∧ wx.cell? ⟨gv9, 2, none⟩ = some (.int .i64 KN.fin.st) ∧ wx.cell? ⟨gv9, 3, none⟩ = some (.int .i64 KN.fin.sp) ∧ wx.cell? ⟨gv9, 4, none⟩ = some (.int .i64 KN.fin.ca) ∧ wx.cell? ⟨gv9, 5, none⟩ = some (.int .u64 KN.fin.tm)) ∧ (wx.cell? ⟨gv11, 0, none⟩ = some (.slice A n k) ∧ wx.cell? ⟨gv11, 1, none⟩ = some (.slice M m d) ∧ wx.cell? ⟨gv11, 2, none⟩ = some (.int .i64 KN.fin.st) ∧ wx.cell? ⟨gv11, 3, none⟩ = some (.int .i64 KN.fin.sp) ∧ wx.cell? ⟨gv11, 4, none⟩ = some (.int .i64 KN.fin.ca) ∧ wx.cell? ⟨gv11, 5, none⟩ = some (.int .u64 KN.fin.tm))) := Lib.hid (fun wx hb => ⟨kobj_cells (kb_below KS.out hb), kobj_cells (kb_below KA.out hb), kobj_cells (kb_below KB2.out hb), kobj_cells (kb_below KG.out hb), kobj_cells (kb_below KE.out hb), kobj_cells (kb_below KF.out hb), kobj_cells (kb_below KH.out hb)⟩)
      have S1 : Hid (∀ wx, Below v12.heap.size v12 wx → Calls Try.prog 21 #[callV Av2 n cv2 Mv2 m dv2 KN.run, callV A n k M m d KN.run] wx fun r w' => r = .returned (.bool true) ∧ Below wx.heap.size wx w') := Lib.hid (fun wx hb => same15_any Av2 n cv2 Mv2 m dv2 A k M d KN.run zs ms wx (Hv2.out.below hb) (HB.out.below (L.out.trans (hb.mono L.out.size))) hm)
      have S2 : Hid (∀ wx, Below v12.heap.size v12 wx → Calls Try.prog 21 #[callV A2 n c2 M2 m d2 (KN.fail y0 y1), callV A n k M m d (KN.fail y0 y1)] wx fun r w' => r = .returned (.bool true) ∧ Below wx.heap.size wx w') := Lib.hid (fun wx hb => same15_any A2 n c2 M2 m d2 A k M d (KN.fail y0 y1) zs ms wx (HG.out.below hb) (HB.out.below (L.out.trans (hb.mono L.out.size))) hm)
      have S3 : Hid (∀ wx, Below v12.heap.size v12 wx → Calls Try.prog 21 #[callV Av9 n cv9 Mv9 m dv9 KN.fin, callV A n k M m d KN.fin] wx fun r w' => r = .returned (.bool true) ∧ Below wx.heap.size wx w') := Lib.hid (fun wx hb => same15_any Av9 n cv9 Mv9 m dv9 A k M d KN.fin zs ms wx (Hv9.out.below hb) (HB.out.below (L.out.trans (hb.mono L.out.size))) hm)
      have S4 : Hid (∀ wx, Below v12.heap.size v12 wx → Calls Try.prog 15 #[callV A n k M m d KN] wx fun r w' => ∃ M' d', r = .returned (callV A n k M' m d' KN) ∧ Bat w' A n k M' m d' zs ms ∧ Below wx.heap.size wx w') := Lib.hid (fun wx hb => made15_any A n k M m d KN zs ms wx (HB.out.below (L.out.trans (hb.mono L.out.size))) hm)
      have S5 : Hid (∀ M' d' wx, Bat wx A n k M' m d' zs ms → Calls Try.prog 22 #[batV A n k M' m d', .int .u64 a2] wx fun r w' => ∃ A' c' M2 d2, r = .returned (callV A' n c' M2 m d2 ⟨1, 0, 0, a2⟩) ∧ Bat w' A' n c' M2 m d2 zs ms ∧ (Fresh wx.heap.size A' ∧ Fresh wx.heap.size M2) ∧ Below wx.heap.size wx w') := Lib.hid (fun M' d' wx h => kbegin_is A n k M' m d' zs ms wx a2 h hn hm)
      have S6 : Hid (∀ wx, Calls Try.prog 23 #[batV A n k M m d, .int .u64 a2] wx fun r w' => r = .returned (callV A n k M m d ⟨1, 0, 0, a2⟩) ∧ Below wx.heap.size wx w') := Lib.hid (fun wx => rbegin15_any A n k M m d a2 wx)
      have S7 : Hid (∀ A' c' M' d' wx, Bat wx A' n c' M' m d' zs ms → Below v12.heap.size v12 wx → Calls Try.prog 21 #[callV A' n c' M' m d' ⟨1, 0, 0, a2⟩, callV A n k M m d ⟨1, 0, 0, a2⟩] wx fun r w' => r = .returned (.bool true) ∧ Below wx.heap.size wx w') := Lib.hid (fun A' c' M' d' wx h hb => same15_any A' n c' M' m d' A k M d ⟨1, 0, 0, a2⟩ zs ms wx h (HB.out.below (L.out.trans (hb.mono L.out.size))) hm)
      have HFD : ∀ M' d' wx, (Instr.field 36 (callV A n k M' m d' KN) 0).run Try.prog wx = .ok (batV A n k M' m d') wx := fun _ _ _ => by kernel_rfl
      have D0 : Hid (Below v12.heap.size v12 v12.drew) := Lib.hid (ali_below (drew_ali _))
      clear KS KT KA KB2 KG KE KF KH Hv2 Hv9 HG HB HF WY hn hm
      go_region_held3 (fun wx => (wx.cell? ⟨w.heap.size, 0, none⟩ = some (.slice A n k) ∧ wx.cell? ⟨w.heap.size, 1, none⟩ = some (.slice M m d) ∧ wx.cell? ⟨w.heap.size, 2, none⟩ = some (.int .i64 KN.st) ∧ wx.cell? ⟨w.heap.size, 3, none⟩ = some (.int .i64 KN.sp) ∧ wx.cell? ⟨w.heap.size, 4, none⟩ = some (.int .i64 KN.ca) ∧ wx.cell? ⟨w.heap.size, 5, none⟩ = some (.int .u64 KN.tm)) ∧ (wx.cell? ⟨gv2, 0, none⟩ = some (.slice Av2 n cv2) ∧ wx.cell? ⟨gv2, 1, none⟩ = some (.slice Mv2 m dv2) ∧ wx.cell? ⟨gv2, 2, none⟩ = some (.int .i64 KN.run.st) ∧ wx.cell? ⟨gv2, 3, none⟩ = some (.int .i64 KN.run.sp) ∧ wx.cell? ⟨gv2, 4, none⟩ = some (.int .i64 KN.run.ca) ∧ wx.cell? ⟨gv2, 5, none⟩ = some (.int .u64 KN.run.tm)) ∧ (wx.cell? ⟨gv4, 0, none⟩ = some (.slice A n k) ∧ wx.cell? ⟨gv4, 1, none⟩ = some (.slice M m d) ∧ wx.cell? ⟨gv4, 2, none⟩ = some (.int .i64 KN.run.st) ∧ wx.cell? ⟨gv4, 3, none⟩ = some (.int .i64 KN.run.sp) ∧ wx.cell? ⟨gv4, 4, none⟩ = some (.int .i64 KN.run.ca) ∧ wx.cell? ⟨gv4, 5, none⟩ = some (.int .u64 KN.run.tm)) ∧ (wx.cell? ⟨g, 0, none⟩ = some (.slice A2 n c2) ∧ wx.cell? ⟨g, 1, none⟩ = some (.slice M2 m d2) ∧ wx.cell? ⟨g, 2, none⟩ = some (.int .i64 (KN.fail y0 y1).st) ∧ wx.cell? ⟨g, 3, none⟩ = some (.int .i64 (KN.fail y0 y1).sp) ∧ wx.cell? ⟨g, 4, none⟩ = some (.int .i64 (KN.fail y0 y1).ca) ∧ wx.cell? ⟨g, 5, none⟩ = some (.int .u64 (KN.fail y0 y1).tm)) ∧ (wx.cell? ⟨gv6, 0, none⟩ = some (.slice A n k) ∧ wx.cell? ⟨gv6, 1, none⟩ = some (.slice M m d) ∧ wx.cell? ⟨gv6, 2, none⟩ = some (.int .i64 (KN.fail y0 y1).st) ∧ wx.cell? ⟨gv6, 3, none⟩ = some (.int .i64 (KN.fail y0 y1).sp) ∧ wx.cell? ⟨gv6, 4, none⟩ = some (.int .i64 (KN.fail y0 y1).ca) ∧ wx.cell? ⟨gv6, 5, none⟩ = some (.int .u64 (KN.fail y0 y1).tm)) ∧ (wx.cell? ⟨gv9, 0, none⟩ = some (.slice Av9 n cv9) ∧ wx.cell? ⟨gv9, 1, none⟩ = some (.slice Mv9 m dv9) ∧ wx.cell? ⟨gv9, 2, none⟩ = some (.int .i64 KN.fin.st) ∧ wx.cell? ⟨gv9, 3, none⟩ = some (.int .i64 KN.fin.sp) ∧ wx.cell? ⟨gv9, 4, none⟩ = some (.int .i64 KN.fin.ca) ∧ wx.cell? ⟨gv9, 5, none⟩ = some (.int .u64 KN.fin.tm)) ∧ (wx.cell? ⟨gv11, 0, none⟩ = some (.slice A n k) ∧ wx.cell? ⟨gv11, 1, none⟩ = some (.slice M m d) ∧ wx.cell? ⟨gv11, 2, none⟩ = some (.int .i64 KN.fin.st) ∧ wx.cell? ⟨gv11, 3, none⟩ = some (.int .i64 KN.fin.sp) ∧ wx.cell? ⟨gv11, 4, none⟩ = some (.int .i64 KN.fin.ca) ∧ wx.cell? ⟨gv11, 5, none⟩ = some (.int .u64 KN.fin.tm)))
        (first
          | with_reducible exact HS.out _ D0.out
          | with_reducible exact HS.out _ t1
          | with_reducible exact HS.out _ t2
          | with_reducible exact HS.out _ t3
          | with_reducible exact HS.out _ t4
          | with_reducible exact HS.out _ t5
          | with_reducible exact HS.out _ t6
          | with_reducible exact HS.out _ t7
        )
        (first
          | (go_at_call 21; refine (S7.out A5 c5 M5 d5 _ R5.out t6).mono ?_; rintro r z7 ⟨rfl, b7⟩; have t7 := t6.trans (b7.mono t6.size))
          | (go_at_call 23; refine (S6.out _).mono ?_; rintro r z6 ⟨rfl, b6⟩; have t6 := t5.trans (b6.mono t5.size); have R5 := Lib.hid (r5.below b6))
          | (go_at_call 22; refine (S5.out M4 d4 _ r4).mono ?_; rintro r z5 ⟨A5, c5, M5, d5, rfl, r5, _, b5⟩; have t5 := t4.trans (b5.mono t4.size))
          | (go_at_call 15; refine (S4.out _ t3).mono ?_; rintro r z4 ⟨M4, d4, rfl, r4, b4⟩; have t4 := t3.trans (b4.mono t3.size))
          | (go_at_call 21; refine (S3.out _ t2).mono ?_; rintro r z3 ⟨rfl, b3⟩; have t3 := t2.trans (b3.mono t2.size))
          | (go_at_call 21; refine (S2.out _ t1).mono ?_; rintro r z2 ⟨rfl, b2⟩; have t2 := t1.trans (b2.mono t1.size))
          | (go_at_call 21; refine (S1.out _ D0.out).mono ?_; rintro r z1 ⟨rfl, b1⟩; have t1 := D0.out.trans (b1.mono D0.out.size)))
      have T := Lib.hid t7
      clear t1 t2 t3 t4 t5 t6 t7 b1 b2 b3 b4 b5 b6 b7 r4 r5
      go_wp2
      go_ret
      exact ⟨rfl, L.out.trans (T.out.mono L.out.size)⟩

set_option maxRecDepth 100000 in
theorem lifted (os : Os) (started : os.Started) (H : Type) (enc : TypeId × Value → H) :
    ReturnsInHanded {} Try.checked os 3 .any (Rows.callTellsSpec.pre6 enc Try.prog Try.f3 Rows.callTellsRow.domain false) (Rows.callTellsSpec.post enc Try.prog Try.f3 false true false false) := by
  refine returnsInHanded_of_change_sized (C := Try.checked) own started (by kernel_rfl) Try.func3
    (ChangeSpec.witness6 (enc := enc) (C := Try.checked) false ⟨#[], #[.agg #[.slice none 0 0, .slice none 0 0, .int .i64 0, .int .i64 0, .int .i64 0, .int .u64 0], .agg #[.int .i64 0, .int .i64 0], .int .u64 0], []⟩ 8 (by kernel_rfl) (by kernel_rfl) (by kernel_rfl) (by kernel_rfl)) ?_
  intro W base args ds gs before hval0 hW hcnd hsz0 _
  have hval : ∀ (j : Nat) t v, Try.f3.params[j]? = some t → args[j]? = some v → Value.okWide Try.prog W .any base t v := hval0
  have hsz : (DataW.weightsEach Try.prog (Try.f3.params.toList ++ Rows.callTellsSpec.plain.varTypes Try.prog) (ds ++ gs)).all (· ≤ reachBytes) = true := hsz0
  have hW' := hW
  obtain ⟨p, q, hA0, hV, rfl, hfz, hnd⟩ := hW
  have hA : DataW.TrodAll enc Try.prog W 0 (fun _ => true) true Try.f3.params.toList args.toList ds p := hA0
  rw [Try.params3] at hA hval hsz
  have hAk := hA
  obtain ⟨v0, vs0, d0, ds0, p0, q0, hargs, rfl, rfl, h0, r0⟩ := trodAll_cons hA
  obtain ⟨v1, vs1, d1, ds1, p1, q1, rfl, rfl, rfl, h1, r1⟩ := trodAll_cons r0
  obtain ⟨v2, vs2, d2, ds2, p2, q2, rfl, rfl, rfl, h2, r2⟩ := trodAll_cons r1
  obtain ⟨rfl, rfl, rfl⟩ := trodAll_nil r2
  obtain rfl : args = #[v0, v1, v2] := by cases args; simp_all
  obtain ⟨rfl, rfl⟩ := trodVars_none hV
  obtain ⟨c0, rfl, w0⟩ := open_shape (ss := [.row [.int .i64] 8, .row [.int .i64, .int .i64] 16, .lit (.int .i64), .lit (.int .i64), .lit (.int .i64), .lit (.int .u64)]) 8 (by kernel_rfl) (by kernel_rfl) (hval 0 28 v0 rfl rfl) h0 hsz 0 rfl rfl
  obtain ⟨c1, rfl, w1⟩ := open_flat (ks := [.int .i64, .int .i64]) 8 (by kernel_rfl) (by kernel_rfl) (hval 1 29 v1 rfl rfl) h1
  obtain ⟨a2, rfl, rfl, rfl, w2⟩ := open_int Try.underlying26 (hval 2 26 v2 rfl rfl) h2
  clear hA0 hval0 hsz0
  refine (walk W c0 w0 c1 w1 a2 w2).mono fun e W' ⟨he, bel⟩ => ?_
  subst he
  exact ⟨_, rfl, _, _, _, [], _, [], hW', trodAll_mk1 (shut_bool Try.underlying4 _), trodAll_below laidOut bel _ _ _ _ (by kernel_rfl) hAk, rfl, bel.frame _, fun h => by cases h⟩

theorem over : Rows.callTellsRow.holds Try.pinned (OpenSpec.ofChange Rows.callTellsSpec) :=
  OpenClaim.holds_of_wide 3 Try.f3 rfl rfl rfl rfl rfl rfl rfl ⟨rfl, rfl, rfl, rfl, rfl⟩ rfl rfl rfl rfl rfl (by kernel_rfl) Try.func3 (by kernel_rfl)
    (of_decide_eq_true (by kernel_rfl)) (by unfold Func.isWrapper; first | (rw [if_pos (by decide +kernel)]; kernel_rfl) | (rw [if_neg (by decide +kernel)]; exact ⟨rfl, rfl⟩))
    (fun os started H enc _ => lifted os started H enc)

theorem proved : Rows.CallTellsSaid := over
#print axioms proved
end Go.Proofs.Ytpfmjocpgnoepaa.callTells
