/- What is proved: BatchTells of porpoiselaw13 answers true for every input, and leaves its arguments as they were; conditions: those of the given row alone. -/
import Derived.Test.YtpfmjocpgnoepaaKit
import Derived.Test.YtpfmjocpgnoepaaLaw13
import Derived.Test.YtpfmjocpgnoepaaRef13c
import Derived.Test.YtpfmjocpgnoepaaRef13d
import Derived.Test.YtpfmjocpgnoepaaOpen
import Derived.Test.YtpfmjocpgnoepaaHand
import Derived.Test.YtpfmjocpgnoepaaLater
import Derived.Deep.DeepCutAuto
namespace Go.Proofs.Ytpfmjocpgnoepaa.batchTells
open Go.ChangeShapes Go.WideShapes Go.ChangeAt Go.RowKit Go.Deep
open Go.ChangeMaps (open_string shut_string)
set_option linter.unusedVariables false

theorem own : ownKnob Try.prog.godebug = none := by kernel_rfl
theorem laidOut : laidOutB Try.prog = true := by kernel_rfl

/-- An argument: the document's batch. -/
theorem bat_in {w : World} {c : Array Value} (h : Shp w [.row [.int .i64] 8, .row [.int .i64, .int .i64] 16] c.toList) :
    ∃ (A : Option Addr) (n k : Nat) (M : Option Addr) (m d : Nat) (zs : List Int) (ms : List P2), c = #[.slice A n k, .slice M m d] ∧ Bat w A n k M m d zs ms ∧ (∀ z ∈ zs, wf64 z) := by
  obtain ⟨l⟩ := c
  obtain _ | ⟨v0, l⟩ := l
  · exact h.elim
  obtain ⟨⟨A, n, k, D, e0, h0⟩, h⟩ := h
  obtain _ | ⟨v1, l⟩ := l
  · exact h.elim
  obtain ⟨⟨M, m, d, D', e1, h1⟩, h⟩ := h
  obtain _ | ⟨v2, l⟩ := l
  · subst e0 e1
    obtain ⟨zs, r0, f0, l0, _⟩ := ints_in h0
    obtain ⟨ms, r1, f1, l1, _⟩ := pairs_in h1
    exact ⟨A, n, k, M, m, d, zs, ms, rfl, ⟨r0, r1, l0, l1, f1⟩, f0⟩
  · exact h.elim
theorem flat_three {c : Array Value} (h : Flat [.int .i64, .int .i64, .int .i64] c.toList) : ∃ x y z, c = #[.int .i64 x, .int .i64 y, .int .i64 z] ∧ wf64 x ∧ wf64 y ∧ wf64 z := by
  obtain ⟨l⟩ := c
  obtain _ | ⟨v0, l⟩ := l
  · exact h.elim
  obtain ⟨⟨x, rfl, u0⟩, h⟩ := h
  obtain _ | ⟨v1, l⟩ := l
  · exact h.elim
  obtain ⟨⟨y, rfl, u1⟩, h⟩ := h
  obtain _ | ⟨v2, l⟩ := l
  · exact h.elim
  obtain ⟨⟨z, rfl, u2⟩, h⟩ := h
  obtain _ | ⟨v3, l⟩ := l
  · exact ⟨x, y, z, rfl, bounds_i64 u0, bounds_i64 u1, bounds_i64 u2⟩
  · exact h.elim
theorem addM_le (zs : List Int) (ms : List P2) (id x most : Int) : (addM zs ms id x most).length ≤ ms.length + 1 := by unfold addM; split; simp; omega
theorem cells3 {w : World} {g : Nat} {ty : TypeId} {x y z : Int} (h : w.heap[g]? = some (.cells #[.int .i64 x, .int .i64 y, .int .i64 z] ty)) : w.cell? ⟨g, 0, none⟩ = some (.int .i64 x) ∧ w.cell? ⟨g, 1, none⟩ = some (.int .i64 y) ∧ w.cell? ⟨g, 2, none⟩ = some (.int .i64 z) :=
  ⟨by rw [cell_of h]; rfl, by rw [cell_of h]; rfl, by rw [cell_of h]; rfl⟩
theorem split_same (zs : List Int) (ms : List P2) (vs : List Int) : (splitL zs ms vs).length = (valL zs ms vs).length := by
  unfold splitL valL
  split <;> simp [pairL]
theorem split_at {zs : List Int} {ms : List P2} {vs : List Int} {i : Nat} {p : P2} (h : (splitL zs ms vs)[i]? = some p) : ∃ q, ms[i]? = some q ∧ (valL zs ms vs)[i]? = some p.b ∧ p.a = q.a := by
  cases hy : splitY zs ms vs with
  | false => rw [splitL_no hy] at h; simp at h
  | true =>
    rw [splitL_yes hy, pairL, List.getElem?_map] at h
    cases hq : ms[i]? with
    | none => rw [hq] at h; cases h
    | some q =>
      rw [hq] at h
      have e := Option.some.inj h
      refine ⟨q, rfl, ?_, ?_⟩
      · simp only [valL, hy, if_true, List.getElem?_map, hq, Option.map_some]
        rw [← e]
      · rw [← e]

set_option maxRecDepth 100000 in
set_option maxHeartbeats 4000000 in
theorem walk (w : World) (c0 : Array Value) (w0 : Shp w [.row [.int .i64] 8, .row [.int .i64, .int .i64] 16] c0.toList) (c1 : Array Value) (w1 : Flat [.int .i64, .int .i64, .int .i64] c1.toList) (a2 : Option Addr) (l2 k2 : Nat) (L2 : List (List Value)) (w2 : SliceIn w [.int .i64] 8 a2 l2 k2 L2) :
    Calls Try.prog 9 #[.agg c0, .agg c1, .slice a2 l2 k2] w fun e w' => e = .returned (.bool true) ∧ Below w.heap.size w w' := by
  obtain ⟨A, n, k, M, m, d, zs, ms, rfl, hB, _⟩ := bat_in w0
  obtain ⟨y0, y1, y2, rfl, u0, u1, u2⟩ := flat_three w1
  obtain ⟨vs, hv, _, _, _⟩ := ints_in w2
  have hl2 := hv.2.1
  unfold maxLen at hl2
  obtain ⟨W, hW, b0, k0, k1, _⟩ := two_new w (bobj 25 A n k M m d) (.cells #[.int .i64 y0, .int .i64 y1, .int .i64 y2] 63)
  have HW := Lib.hid hW
  have K0 := Lib.hid k0
  have K1 := Lib.hid k1
  have B0 := Lib.hid b0
  have HB := Lib.hid hB
  have HV := Lib.hid hv
  have U0 := Lib.hid u0
  have U1 := Lib.hid u1
  clear w0 w1 w2 hW k0 k1 b0 hB hv u0 u1 u2
  go_enter Try.func9, Try.ntmps9
  go_wp2_with fail
  rw [HW.out]
  refine (awake13_any W).mono ?_
  rintro r wa ⟨rfl, ba⟩
  have BA := Lib.hid (B0.out.trans (ba.mono B0.out.size))
  have KA := Lib.hid (kb_below K0.out ba)
  have KA1 := Lib.hid (kb_below K1.out ba)
  obtain ⟨q0, q1⟩ := bobj_cells KA.out
  clear ba HW K0 B0 K1
  go_wp2_with fail
  refine (few_any A n k M m d wa).mono ?_
  rintro r wb ⟨rfl, bb⟩
  have L := Lib.hid (BA.out.trans (bb.mono BA.out.size))
  have KS := Lib.hid (kb_below KA.out bb)
  have KT := Lib.hid (kb_below KA1.out bb)
  clear q0 q1 bb KA BA KA1
  by_cases hf : n ≤ 50 ∧ m ≤ 50
  case neg =>
    rw [decide_eq_false hf]
    clear hf
    go_wp2
    go_ret
    exact ⟨rfl, L.out⟩
  case pos =>
    have hn : n ≤ 1000 := by omega
    have hm : m ≤ 1000 := by omega
    have hm50 := hf.2
    rw [decide_eq_true hf]
    clear hf
    by_cases hl : l2 ≤ 60
    case neg =>
      have hl' : decide ((60 : Int) < (l2 : Int)) = true := by simp; omega
      clear hl
      go_wp2
      go_ret
      exact ⟨rfl, L.out⟩
    case pos =>
      have hl' : decide ((60 : Int) < (l2 : Int)) = false := by simp; omega
      clear hl
      go_wp2
      go_cut [8, 9] (fun vx vy wq => ∃ (g : Nat) (A2 : Option Addr) (n2 c2 : Nat) (M2 : Option Addr) (m2 d2 : Nat), vx = .pointer (some ⟨g, 0, none⟩) ∧ vy = .bool (addY zs y1 y2) ∧ wb.heap.size ≤ g ∧ wq.heap[g]? = some (bobj 34 A2 n2 c2 M2 m2 d2) ∧ Bat wq A2 n2 c2 M2 m2 d2 (addA zs y1 y2) (addM zs ms y0 y1 y2) ∧ Below wb.heap.size wb wq)
      case first =>
        have DW : Hid (Below wb.heap.size wb wb.drew) := Lib.hid (ali_below (drew_ali _))
        have KD : Hid (wb.drew.heap[w.heap.size]? = some (bobj 25 A n k M m d)) := Lib.hid KS.out
        have KTD : Hid (wb.drew.heap[w.heap.size + 1]? = some (.cells #[.int .i64 y0, .int .i64 y1, .int .i64 y2] 63)) := Lib.hid KT.out
        have BD := Lib.hid (L.out.trans (DW.out.mono L.out.size))
        generalize hwd : wb.drew = wd at *
        have HWD := Lib.hid hwd
        have HS : Hid (∀ wx, Below wd.heap.size wd wx → (wx.cell? ⟨w.heap.size, 0, none⟩ = some (.slice A n k) ∧ wx.cell? ⟨w.heap.size, 1, none⟩ = some (.slice M m d)) ∧ (wx.cell? ⟨w.heap.size + 1, 0, none⟩ = some (.int .i64 y0) ∧ wx.cell? ⟨w.heap.size + 1, 1, none⟩ = some (.int .i64 y1) ∧ wx.cell? ⟨w.heap.size + 1, 2, none⟩ = some (.int .i64 y2))) := Lib.hid (fun wx hb => ⟨bobj_cells (kb_below KD.out hb), cells3 (kb_below KTD.out hb)⟩)
        have H1 : Hid (∀ wx, Below wd.heap.size wd wx → Calls Try.prog 32 #[batV A n k M m d] wx fun r w' => ∃ M' d', r = .returned (batV A n k M' m d') ∧ Bat w' A n k M' m d' zs ms ∧ Below wx.heap.size wx w') := Lib.hid (fun wx hb => made_any A n k M m d zs ms wx (HB.out.below (BD.out.trans (hb.mono BD.out.size))) hm)
        have H5 : Hid (∀ M' d' wx, Bat wx A n k M' m d' zs ms → Calls Try.prog 31 #[batV A n k M' m d', .int .i64 y0, .int .i64 y1, .int .i64 y2] wx fun r w' => ∃ A' n' c' M' m' d', r = .returned (.tuple #[batV A' n' c' M' m' d', .bool (addY zs y1 y2)]) ∧ Bat w' A' n' c' M' m' d' (addA zs y1 y2) (addM zs ms y0 y1 y2) ∧ (Fresh wx.heap.size A' ∧ Fresh wx.heap.size M') ∧ Below wx.heap.size wx w') := Lib.hid (fun M' d' wx h => badd_any A n k M' m d' zs ms y0 y1 y2 wx h U0.out hn hm)
        have Lwd : Hid (Below wd.heap.size wd wd) := Lib.hid (Below.refl _ _)
        clear hwd hn hm
        refine wp_region_held_drew (S := fun wx => (wx.cell? ⟨w.heap.size, 0, none⟩ = some (.slice A n k) ∧ wx.cell? ⟨w.heap.size, 1, none⟩ = some (.slice M m d)) ∧ (wx.cell? ⟨w.heap.size + 1, 0, none⟩ = some (.int .i64 y0) ∧ wx.cell? ⟨w.heap.size + 1, 1, none⟩ = some (.int .i64 y1) ∧ wx.cell? ⟨w.heap.size + 1, 2, none⟩ = some (.int .i64 y2))) (by kernel_rfl) (by rw [HWD.out]; exact HS.out _ Lwd.out) (fun hHeld => ?_)
        rw [HWD.out]
        rw [HWD.out] at hHeld
        refine wpAnyH_take (i := 0) (oi := ⟨_, _, _, _, _, _⟩) (v := ?_) rfl (by kernel_rfl) (by kernel_rfl) (by kernel_rfl) (fun _ _ _ h => h) (Or.inl ⟨by rfl, ?_⟩) (by assumption) ?_
        rotate_left
        · intro w hSw; (try dsimp only at hSw); go_simp; try (with_reducible rfl)
        try go_frame
        refine wpAnyH_take (i := 2) (oi := ⟨_, _, _, _, _, _⟩) (v := ?_) rfl (by kernel_rfl) (by kernel_rfl) (by kernel_rfl) (fun _ _ _ h => h) (Or.inl ⟨by rfl, ?_⟩) (by assumption) ?_
        rotate_left
        · intro w hSw; (try dsimp only at hSw); go_simp; try (with_reducible rfl)
        try go_frame
        refine wpAnyH_take (i := 3) (oi := ⟨_, _, _, _, _, _⟩) (v := ?_) rfl (by kernel_rfl) (by kernel_rfl) (by kernel_rfl) (fun _ _ _ h => h) (Or.inl ⟨by rfl, ?_⟩) (by assumption) ?_
        rotate_left
        · intro w hSw; (try dsimp only at hSw); go_simp; try (with_reducible rfl)
        try go_frame
        refine wpAnyH_take (i := 4) (oi := ⟨_, _, _, _, _, _⟩) (v := ?_) rfl (by kernel_rfl) (by kernel_rfl) (by kernel_rfl) (fun _ _ _ h => h) (Or.inl ⟨by rfl, ?_⟩) (by assumption) ?_
        rotate_left
        · intro w hSw; (try dsimp only at hSw); go_simp; try (with_reducible rfl)
        try go_frame
        refine wpAnyH_take (i := 5) (oi := ⟨_, _, _, _, _, _⟩) (v := ?_) rfl (by kernel_rfl) (by kernel_rfl) (by kernel_rfl) (fun _ _ _ h => h) (Or.inl ⟨by rfl, ?_⟩) (by assumption) ?_
        rotate_left
        · intro w hSw; (try dsimp only at hSw); go_simp; try (with_reducible rfl)
        try go_frame
        refine wpAnyH_take (i := 6) (oi := ⟨_, _, _, _, _, _⟩) (v := ?_) rfl (by kernel_rfl) (by kernel_rfl) (by kernel_rfl) (fun _ _ _ h => h) (Or.inl ⟨by rfl, ?_⟩) (by assumption) ?_
        rotate_left
        · intro w hSw; (try dsimp only at hSw); go_simp; try (with_reducible rfl)
        try go_frame
        refine wpAnyH_take (i := 7) (oi := ⟨_, _, _, _, _, _⟩) (v := ?_) rfl (by kernel_rfl) (by kernel_rfl) (by kernel_rfl) (fun _ _ _ h => h) (Or.inl ⟨by rfl, ?_⟩) (by assumption) ?_
        rotate_left
        · intro w hSw; (try dsimp only at hSw); go_simp; try (with_reducible rfl)
        try go_frame
        refine wpAnyH_ready (rs := [1, 12]) (by kernel_rfl) (by simp) ?_
        refine ready_cons (i := 1) (o := ⟨_, _, _, _, _, _⟩) rfl ?_ (ready_cons (i := 12) (o := ⟨_, _, _, _, _, _⟩) rfl ?_ AllReadyH.nil)
        · intro K hK
          refine call_step (f := 32) (args := #[batV A n k M m d]) rfl (by kernel_rfl) ?_
          refine (H1.out wd Lwd.out).mono ?_
          rintro r w1 ⟨M1, d1, rfl, g1, b1⟩
          refine ⟨_, rfl, ?_⟩
          have G1 := Lib.hid g1
          have Lw1 := Lib.hid (Lwd.out.trans (b1.mono Lwd.out.size))
          refine hK.out _ _ (HS.out _ Lw1.out) (fun hHeld => ?_)
          clear hK g1 b1
          try go_frame
          refine wpAnyH_ready (rs := [8, 12]) (by kernel_rfl) (by simp) ?_
          refine ready_cons (i := 8) (o := ⟨_, _, _, _, _, _⟩) rfl ?_ (ready_cons (i := 12) (o := ⟨_, _, _, _, _, _⟩) rfl ?_ AllReadyH.nil)
          · intro K hK
            refine call_step (f := 31) (args := #[batV A n k M1 m d1, .int .i64 y0, .int .i64 y1, .int .i64 y2]) rfl (by kernel_rfl) ?_
            refine (H5.out M1 d1 w1 G1.out).mono ?_
            rintro r w5 ⟨A2, n2, c2, M2, m2, d2, rfl, g5, ⟨fa, fm⟩, b5⟩
            refine ⟨_, rfl, ?_⟩
            have G5 := Lib.hid g5
            have Lw5 := Lib.hid (Lw1.out.trans (b5.mono Lw1.out.size))
            refine hK.out _ _ (HS.out _ Lw5.out) (fun hHeld => ?_)
            clear hK g5 b5 fa fm G1
            try go_frame
            refine wpAnyH_take (i := 9) (oi := ⟨_, _, _, _, _, _⟩) (v := ?_) rfl (by kernel_rfl) (by kernel_rfl) (by kernel_rfl) (fun _ _ _ h => h) (Or.inl ⟨by rfl, ?_⟩) (by assumption) ?_
            rotate_left
            · intro w hSw; (try dsimp only at hSw); go_simp; try (with_reducible rfl)
            try go_frame
            refine wpAnyH_take (i := 10) (oi := ⟨_, _, _, _, _, _⟩) (v := ?_) rfl (by kernel_rfl) (by kernel_rfl) (by kernel_rfl) (fun _ _ _ h => h) (Or.inl ⟨by rfl, ?_⟩) (by assumption) ?_
            rotate_left
            · intro w hSw; (try dsimp only at hSw); go_simp; try (with_reducible rfl)
            try go_frame
            refine wpAnyH_take (i := 11) (oi := ⟨_, _, _, _, _, _⟩) (v := ?_) rfl (by kernel_rfl) (by kernel_rfl) (by kernel_rfl) (fun _ _ _ h => h) (Or.inl ⟨by rfl, ?_⟩) (by assumption) ?_
            rotate_left
            · intro w hSw; (try dsimp only at hSw); go_simp; try (with_reducible rfl)
            try go_frame
            refine wpAnyH_ready (rs := [12]) (by kernel_rfl) (by simp) ?_
            refine ready_cons (i := 12) (o := ⟨_, _, _, _, _, _⟩) rfl ?_ AllReadyH.nil
            intro K hK
            constructor
            go_simp
            have KX : Hid ((w5.alloc (.cells #[.slice none 0 0, .slice none 0 0] 34)).heap[w5.heap.size]? = some (bobj 34 none 0 0 none 0 0)) := Lib.hid (heap_alloc_at w5 _)
            have Lw6 : Hid (Below wd.heap.size wd (w5.alloc (.cells #[.slice none 0 0, .slice none 0 0] 34))) := Lib.hid (Lw5.out.alloc Lw5.out.size _)
            have GX : Hid (wd.heap.size ≤ w5.heap.size) := Lib.hid Lw5.out.size
            have OF : Hid ((∀ b off, A2 = some ⟨b, off, none⟩ → 0 < n2 → b ≠ w5.heap.size) ∧ (∀ b off, M2 = some ⟨b, off, none⟩ → 0 < m2 → b ≠ w5.heap.size)) := Lib.hid ⟨fun b off e h0 => Nat.ne_of_lt (G5.out.ar.lt e h0), fun b off e h0 => Nat.ne_of_lt (G5.out.mr.lt e h0)⟩
            have G6 := Lib.hid (G5.out.below (below_alloc w5 (.cells #[.slice none 0 0, .slice none 0 0] 34)))
            have G5 := G6
            clear G6
            refine hK.out _ _ (HS.out _ Lw6.out) (fun hHeld => ?_)
            clear hK
            generalize w5.alloc (.cells #[.slice none 0 0, .slice none 0 0] 34) = w6 at *
            generalize hgx : w5.heap.size = g at *
            clear hgx
            try go_frame
            refine wpAnyH_ready (rs := [13]) (by kernel_rfl) (by simp) ?_
            refine ready_cons (i := 13) (o := ⟨_, _, _, _, _, _⟩) rfl ?_ AllReadyH.nil
            intro K hK
            refine store_step rfl 34 _ _ rfl g 0 34 [.slice none 0 0, .slice none 0 0] [.slice A2 n2 c2, .slice M2 m2 d2] rfl rfl KX.out (Nat.le_refl _) sizeBB (onesBB _ _ _ _ _ _) ?_
            intro w7 k7 f7 z7
            clear z7
            have K7 : Hid (w7.heap[g]? = some (bobj 34 A2 n2 c2 M2 m2 d2)) := Lib.hid k7
            have L7 : Hid (Below wd.heap.size wd w7) := Lib.hid (Lw6.out.trans (f7.below Lw6.out.size (fun j hj e => by have := GX.out; omega)))
            have H7 : Hid (Bat w7 A2 n2 c2 M2 m2 d2 (addA zs y1 y2) (addM zs ms y0 y1 y2)) := Lib.hid ⟨G5.out.ar.apart f7 (fun b off e h0 hx => OF.out.1 b off e h0 hx), G5.out.mr.apart f7 (fun b off e h0 hx => OF.out.2 b off e h0 hx), G5.out.nc, G5.out.md, G5.out.fits⟩
            refine hK.out _ _ (HS.out _ L7.out) (fun hHeld => ?_)
            clear hK k7 f7
            try go_frame
            refine wpAnyH_take (i := 14) (oi := ⟨_, _, _, _, _, _⟩) (v := ?_) rfl (by kernel_rfl) (by kernel_rfl) (by kernel_rfl) (fun _ _ _ h => h) (Or.inl ⟨by rfl, ?_⟩) (by assumption) ?_
            rotate_left
            · intro w hSw; (try dsimp only at hSw); go_simp; try (with_reducible rfl)
            try go_frame
            refine wpAnyH_done (by kernel_rfl) ?_ _
            go_wp2
            go_meet
            exact ⟨g, A2, n2, c2, M2, m2, d2, rfl, rfl, Nat.le_trans DW.out.size GX.out, K7.out, H7.out, DW.out.trans (L7.out.mono DW.out.size)⟩
          · intro K hK
            constructor
            go_simp
            have KX : Hid ((w1.alloc (.cells #[.slice none 0 0, .slice none 0 0] 34)).heap[w1.heap.size]? = some (bobj 34 none 0 0 none 0 0)) := Lib.hid (heap_alloc_at w1 _)
            have Lw6 : Hid (Below wd.heap.size wd (w1.alloc (.cells #[.slice none 0 0, .slice none 0 0] 34))) := Lib.hid (Lw1.out.alloc Lw1.out.size _)
            have GX : Hid (wd.heap.size ≤ w1.heap.size) := Lib.hid Lw1.out.size
            have G6 := Lib.hid (G1.out.below (below_alloc w1 (.cells #[.slice none 0 0, .slice none 0 0] 34)))
            have G1 := G6
            clear G6
            refine hK.out _ _ (HS.out _ Lw6.out) (fun hHeld => ?_)
            clear hK
            generalize w1.alloc (.cells #[.slice none 0 0, .slice none 0 0] 34) = w6 at *
            generalize hgx : w1.heap.size = g at *
            clear hgx
            try go_frame
            refine wpAnyH_ready (rs := [8]) (by kernel_rfl) (by simp) ?_
            refine ready_cons (i := 8) (o := ⟨_, _, _, _, _, _⟩) rfl ?_ AllReadyH.nil
            intro K hK
            refine call_step (f := 31) (args := #[batV A n k M1 m d1, .int .i64 y0, .int .i64 y1, .int .i64 y2]) rfl (by kernel_rfl) ?_
            refine (H5.out M1 d1 w6 G1.out).mono ?_
            rintro r w5 ⟨A2, n2, c2, M2, m2, d2, rfl, g5, ⟨fa, fm⟩, b5⟩
            refine ⟨_, rfl, ?_⟩
            have G5 := Lib.hid g5
            have Lw5 := Lib.hid (Lw6.out.trans (b5.mono Lw6.out.size))
            have OF : Hid ((∀ b off, A2 = some ⟨b, off, none⟩ → 0 < n2 → b ≠ g) ∧ (∀ b off, M2 = some ⟨b, off, none⟩ → 0 < m2 → b ≠ g)) := Lib.hid ⟨fun b off e _ => by have := fa b off e; have := heap_lt KX.out; omega, fun b off e _ => by have := fm b off e; have := heap_lt KX.out; omega⟩
            have KX1 := Lib.hid (kb_below KX.out b5)
            have KX := KX1
            clear KX1
            refine hK.out _ _ (HS.out _ Lw5.out) (fun hHeld => ?_)
            clear hK g5 b5 fa fm G1
            try go_frame
            refine wpAnyH_take (i := 9) (oi := ⟨_, _, _, _, _, _⟩) (v := ?_) rfl (by kernel_rfl) (by kernel_rfl) (by kernel_rfl) (fun _ _ _ h => h) (Or.inl ⟨by rfl, ?_⟩) (by assumption) ?_
            rotate_left
            · intro w hSw; (try dsimp only at hSw); go_simp; try (with_reducible rfl)
            try go_frame
            refine wpAnyH_take (i := 10) (oi := ⟨_, _, _, _, _, _⟩) (v := ?_) rfl (by kernel_rfl) (by kernel_rfl) (by kernel_rfl) (fun _ _ _ h => h) (Or.inl ⟨by rfl, ?_⟩) (by assumption) ?_
            rotate_left
            · intro w hSw; (try dsimp only at hSw); go_simp; try (with_reducible rfl)
            try go_frame
            refine wpAnyH_take (i := 11) (oi := ⟨_, _, _, _, _, _⟩) (v := ?_) rfl (by kernel_rfl) (by kernel_rfl) (by kernel_rfl) (fun _ _ _ h => h) (Or.inl ⟨by rfl, ?_⟩) (by assumption) ?_
            rotate_left
            · intro w hSw; (try dsimp only at hSw); go_simp; try (with_reducible rfl)
            try go_frame
            refine wpAnyH_ready (rs := [13]) (by kernel_rfl) (by simp) ?_
            refine ready_cons (i := 13) (o := ⟨_, _, _, _, _, _⟩) rfl ?_ AllReadyH.nil
            intro K hK
            refine store_step rfl 34 _ _ rfl g 0 34 [.slice none 0 0, .slice none 0 0] [.slice A2 n2 c2, .slice M2 m2 d2] rfl rfl KX.out (Nat.le_refl _) sizeBB (onesBB _ _ _ _ _ _) ?_
            intro w7 k7 f7 z7
            clear z7
            have K7 : Hid (w7.heap[g]? = some (bobj 34 A2 n2 c2 M2 m2 d2)) := Lib.hid k7
            have L7 : Hid (Below wd.heap.size wd w7) := Lib.hid (Lw5.out.trans (f7.below Lw5.out.size (fun j hj e => by have := GX.out; omega)))
            have H7 : Hid (Bat w7 A2 n2 c2 M2 m2 d2 (addA zs y1 y2) (addM zs ms y0 y1 y2)) := Lib.hid ⟨G5.out.ar.apart f7 (fun b off e h0 hx => OF.out.1 b off e h0 hx), G5.out.mr.apart f7 (fun b off e h0 hx => OF.out.2 b off e h0 hx), G5.out.nc, G5.out.md, G5.out.fits⟩
            refine hK.out _ _ (HS.out _ L7.out) (fun hHeld => ?_)
            clear hK k7 f7
            try go_frame
            refine wpAnyH_take (i := 14) (oi := ⟨_, _, _, _, _, _⟩) (v := ?_) rfl (by kernel_rfl) (by kernel_rfl) (by kernel_rfl) (fun _ _ _ h => h) (Or.inl ⟨by rfl, ?_⟩) (by assumption) ?_
            rotate_left
            · intro w hSw; (try dsimp only at hSw); go_simp; try (with_reducible rfl)
            try go_frame
            refine wpAnyH_done (by kernel_rfl) ?_ _
            go_wp2
            go_meet
            exact ⟨g, A2, n2, c2, M2, m2, d2, rfl, rfl, Nat.le_trans DW.out.size GX.out, K7.out, H7.out, DW.out.trans (L7.out.mono DW.out.size)⟩
        · intro K hK
          constructor
          go_simp
          have KX : Hid ((wd.alloc (.cells #[.slice none 0 0, .slice none 0 0] 34)).heap[wd.heap.size]? = some (bobj 34 none 0 0 none 0 0)) := Lib.hid (heap_alloc_at wd _)
          have Lw6 : Hid (Below wd.heap.size wd (wd.alloc (.cells #[.slice none 0 0, .slice none 0 0] 34))) := Lib.hid (Lwd.out.alloc Lwd.out.size _)
          have GX : Hid (wd.heap.size ≤ wd.heap.size) := Lib.hid Lwd.out.size
          refine hK.out _ _ (HS.out _ Lw6.out) (fun hHeld => ?_)
          clear hK
          generalize wd.alloc (.cells #[.slice none 0 0, .slice none 0 0] 34) = w6 at *
          obtain ⟨g, hg⟩ : ∃ g, wd.heap.size = g := ⟨_, rfl⟩
          rw [hg] at KX
          clear GX
          have GX : Hid (wd.heap.size ≤ g) := Lib.hid (Nat.le_of_eq hg)
          try rw [hg]
          clear hg
          try go_frame
          refine wpAnyH_ready (rs := [1]) (by kernel_rfl) (by simp) ?_
          refine ready_cons (i := 1) (o := ⟨_, _, _, _, _, _⟩) rfl ?_ AllReadyH.nil
          intro K hK
          refine call_step (f := 32) (args := #[batV A n k M m d]) rfl (by kernel_rfl) ?_
          refine (H1.out w6 Lw6.out).mono ?_
          rintro r w1 ⟨M1, d1, rfl, g1, b1⟩
          refine ⟨_, rfl, ?_⟩
          have G1 := Lib.hid g1
          have Lw1 := Lib.hid (Lw6.out.trans (b1.mono Lw6.out.size))
          have KX1 := Lib.hid (kb_below KX.out b1)
          have KX := KX1
          clear KX1
          refine hK.out _ _ (HS.out _ Lw1.out) (fun hHeld => ?_)
          clear hK g1 b1
          try go_frame
          refine wpAnyH_ready (rs := [8]) (by kernel_rfl) (by simp) ?_
          refine ready_cons (i := 8) (o := ⟨_, _, _, _, _, _⟩) rfl ?_ AllReadyH.nil
          intro K hK
          refine call_step (f := 31) (args := #[batV A n k M1 m d1, .int .i64 y0, .int .i64 y1, .int .i64 y2]) rfl (by kernel_rfl) ?_
          refine (H5.out M1 d1 w1 G1.out).mono ?_
          rintro r w5 ⟨A2, n2, c2, M2, m2, d2, rfl, g5, ⟨fa, fm⟩, b5⟩
          refine ⟨_, rfl, ?_⟩
          have G5 := Lib.hid g5
          have Lw5 := Lib.hid (Lw1.out.trans (b5.mono Lw1.out.size))
          have OF : Hid ((∀ b off, A2 = some ⟨b, off, none⟩ → 0 < n2 → b ≠ g) ∧ (∀ b off, M2 = some ⟨b, off, none⟩ → 0 < m2 → b ≠ g)) := Lib.hid ⟨fun b off e _ => by have := fa b off e; have := heap_lt KX.out; omega, fun b off e _ => by have := fm b off e; have := heap_lt KX.out; omega⟩
          have KX1 := Lib.hid (kb_below KX.out b5)
          have KX := KX1
          clear KX1
          refine hK.out _ _ (HS.out _ Lw5.out) (fun hHeld => ?_)
          clear hK g5 b5 fa fm G1
          try go_frame
          refine wpAnyH_take (i := 9) (oi := ⟨_, _, _, _, _, _⟩) (v := ?_) rfl (by kernel_rfl) (by kernel_rfl) (by kernel_rfl) (fun _ _ _ h => h) (Or.inl ⟨by rfl, ?_⟩) (by assumption) ?_
          rotate_left
          · intro w hSw; (try dsimp only at hSw); go_simp; try (with_reducible rfl)
          try go_frame
          refine wpAnyH_take (i := 10) (oi := ⟨_, _, _, _, _, _⟩) (v := ?_) rfl (by kernel_rfl) (by kernel_rfl) (by kernel_rfl) (fun _ _ _ h => h) (Or.inl ⟨by rfl, ?_⟩) (by assumption) ?_
          rotate_left
          · intro w hSw; (try dsimp only at hSw); go_simp; try (with_reducible rfl)
          try go_frame
          refine wpAnyH_take (i := 11) (oi := ⟨_, _, _, _, _, _⟩) (v := ?_) rfl (by kernel_rfl) (by kernel_rfl) (by kernel_rfl) (fun _ _ _ h => h) (Or.inl ⟨by rfl, ?_⟩) (by assumption) ?_
          rotate_left
          · intro w hSw; (try dsimp only at hSw); go_simp; try (with_reducible rfl)
          try go_frame
          refine wpAnyH_ready (rs := [13]) (by kernel_rfl) (by simp) ?_
          refine ready_cons (i := 13) (o := ⟨_, _, _, _, _, _⟩) rfl ?_ AllReadyH.nil
          intro K hK
          refine store_step rfl 34 _ _ rfl g 0 34 [.slice none 0 0, .slice none 0 0] [.slice A2 n2 c2, .slice M2 m2 d2] rfl rfl KX.out (Nat.le_refl _) sizeBB (onesBB _ _ _ _ _ _) ?_
          intro w7 k7 f7 z7
          clear z7
          have K7 : Hid (w7.heap[g]? = some (bobj 34 A2 n2 c2 M2 m2 d2)) := Lib.hid k7
          have L7 : Hid (Below wd.heap.size wd w7) := Lib.hid (Lw5.out.trans (f7.below Lw5.out.size (fun j hj e => by have := GX.out; omega)))
          have H7 : Hid (Bat w7 A2 n2 c2 M2 m2 d2 (addA zs y1 y2) (addM zs ms y0 y1 y2)) := Lib.hid ⟨G5.out.ar.apart f7 (fun b off e h0 hx => OF.out.1 b off e h0 hx), G5.out.mr.apart f7 (fun b off e h0 hx => OF.out.2 b off e h0 hx), G5.out.nc, G5.out.md, G5.out.fits⟩
          refine hK.out _ _ (HS.out _ L7.out) (fun hHeld => ?_)
          clear hK k7 f7
          try go_frame
          refine wpAnyH_take (i := 14) (oi := ⟨_, _, _, _, _, _⟩) (v := ?_) rfl (by kernel_rfl) (by kernel_rfl) (by kernel_rfl) (fun _ _ _ h => h) (Or.inl ⟨by rfl, ?_⟩) (by assumption) ?_
          rotate_left
          · intro w hSw; (try dsimp only at hSw); go_simp; try (with_reducible rfl)
          try go_frame
          refine wpAnyH_done (by kernel_rfl) ?_ _
          go_wp2
          go_meet
          exact ⟨g, A2, n2, c2, M2, m2, d2, rfl, rfl, Nat.le_trans DW.out.size GX.out, K7.out, H7.out, DW.out.trans (L7.out.mono DW.out.size)⟩
      case rest =>
        obtain ⟨g, A2, n2, c2, M2, m2, d2, rfl, rfl, hg, hk, hh, hl⟩ := hcut
        have KG := Lib.hid hk
        have HG := Lib.hid hh
        have L_ := Lib.hid (L.out.trans (hl.mono L.out.size))
        have KS_ := Lib.hid (kb_below KS.out hl)
        have KT_ := Lib.hid (kb_below KT.out hl)
        clear hg hk hh hl L KS KT
        have L := L_
        have KS := KS_
        have KT := KT_
        clear L_ KS_ KT_
        obtain ⟨s0, s1⟩ := bobj_cells KS.out
        obtain ⟨t0, t1, t2⟩ := cells3 KT.out
        go_wp2_with fail
        clear s0 s1 t0 t1 t2
        refine (bradd_any A n k M m d zs ms y0 y1 y2 wc (HB.out.below L.out) U0.out hn hm).mono ?_
        rintro r v1 ⟨A3, n3, c3, M3, m3, d3, rfl, h3, b3⟩
        have K10 : Hid ((v1.alloc (.cells #[.slice A3 n3 c3, .slice M3 m3 d3] 25)).heap[v1.heap.size]? = some (bobj 25 A3 n3 c3 M3 m3 d3)) := Lib.hid (heap_alloc_at v1 _)
        have b3' : Below wc.heap.size wc (v1.alloc (.cells #[.slice A3 n3 c3, .slice M3 m3 d3] 25)) := b3.alloc b3.size _
        have H3 := Lib.hid (h3.below (below_alloc v1 (.cells #[.slice A3 n3 c3, .slice M3 m3 d3] 25)))
        go_upto_region 6 with fail
        generalize v1.alloc (.cells #[.slice A3 n3 c3, .slice M3 m3 d3] 25) = v2 at *
        generalize v1.heap.size = g10 at *
        have L_ := Lib.hid (L.out.trans (b3'.mono L.out.size))
        have KS_ := Lib.hid (kb_below KS.out b3')
        have KT_ := Lib.hid (kb_below KT.out b3')
        have KG_ := Lib.hid (kb_below KG.out b3')
        have HG_ := Lib.hid (HG.out.below b3')
        clear L KS KT KG HG
        have L := L_
        have KS := KS_
        have KT := KT_
        have KG := KG_
        have HG := HG_
        clear L_ KS_ KT_ KG_ HG_
        clear b3 b3' h3
        obtain ⟨s0, s1⟩ := bobj_cells KS.out
        go_wp2_with fail
        clear s0 s1
        refine (made_any A n k M m d zs ms v2 (HB.out.below L.out) hm).mono ?_
        rintro r v3 ⟨M4, d4, rfl, h4, b4⟩
        go_wp2_with fail
        refine (bsplit_any A n k M4 m d4 zs ms a2 l2 k2 vs v3 h4 (HV.out.later (L.out.trans (b4.mono L.out.size))) hm).mono ?_
        rintro r v4 ⟨P, q, f, rfl, hr, _, b5⟩
        have PR := Lib.hid hr
        have b6 := b4.trans (b5.mono b4.size)
        have L_ := Lib.hid (L.out.trans (b6.mono L.out.size))
        have KS_ := Lib.hid (kb_below KS.out b6)
        have KT_ := Lib.hid (kb_below KT.out b6)
        have KG_ := Lib.hid (kb_below KG.out b6)
        have K10_ := Lib.hid (kb_below K10.out b6)
        have HG_ := Lib.hid (HG.out.below b6)
        have H3_ := Lib.hid (H3.out.below b6)
        clear L KS KT KG K10 HG H3
        have L := L_
        have KS := KS_
        have KT := KT_
        have KG := KG_
        have K10 := K10_
        have HG := HG_
        have H3 := H3_
        clear L_ KS_ KT_ KG_ K10_ HG_ H3_
        clear hr b4 b5 b6 h4
        go_upto_region 7 with fail
        obtain ⟨s0, s1⟩ := bobj_cells KS.out
        go_wp2_with fail
        clear s0 s1
        refine (rsplit_any A n k M m d zs ms a2 l2 k2 vs v4 (HB.out.below L.out) (HV.out.later L.out) hm).mono ?_
        rintro r v5 ⟨Q, q', f', rfl, hr, _, b7⟩
        have QR := Lib.hid hr
        have PR_ := Lib.hid (PR.out.later b7)
        clear PR
        have PR := PR_
        clear PR_
        have L_ := Lib.hid (L.out.trans (b7.mono L.out.size))
        have KS_ := Lib.hid (kb_below KS.out b7)
        have KT_ := Lib.hid (kb_below KT.out b7)
        have KG_ := Lib.hid (kb_below KG.out b7)
        have K10_ := Lib.hid (kb_below K10.out b7)
        have HG_ := Lib.hid (HG.out.below b7)
        have H3_ := Lib.hid (H3.out.below b7)
        clear L KS KT KG K10 HG H3
        have L := L_
        have KS := KS_
        have KT := KT_
        have KG := KG_
        have K10 := K10_
        have HG := HG_
        have H3 := H3_
        clear L_ KS_ KT_ KG_ K10_ HG_ H3_
        obtain rfl : q' = q := by have h1 := PR.out.1; have h2 := QR.out.1; rw [split_same] at h1; omega
        have QM := Lib.hid PR.out.2.1
        clear hr b7 HV
        go_upto_region 11 with fail
        go_loopg [16] q' (fun u v16 wr => ∃ i : Nat, i + u = q' ∧ v16 = .int .i64 i ∧ Below v5.heap.size v5 wr)
        case atStart => exact ⟨0, by omega, rfl, Below.refl _ _⟩
        case round =>
          obtain ⟨i, hi, rfl, hx⟩ := hrel
          have HI := Lib.hid hi
          have LX := Lib.hid hx
          have hqm := QM.out
          unfold maxLen at hqm
          clear hi
          by_cases hiq : i < q'
          · have hiq' : (i : Int) < (q' : Int) := by omega
            obtain ⟨pb, po, p, rfl, hp, p0, p1⟩ := (PR.out.later hx).pair_at hiq
            obtain ⟨qb, qo, z, rfl, hz, r0⟩ := (QR.out.later hx).int_at hiq
            obtain ⟨y, hy, hv, hpa⟩ := split_at hp
            obtain rfl : z = p.b := Option.some.inj (hz.symm.trans hv)
            have him : i < m := by have h1 := (List.getElem?_eq_some_iff.1 hy).1; have := HB.out.mlen; omega
            obtain ⟨mb, mo, y', rfl, hy', c0, _⟩ := (HB.out.mr.later (L.out.trans (hx.mono L.out.size))).pair_at him
            obtain rfl : y = y' := Option.some.inj (hy.symm.trans hy')
            have him' : (i : Int) < (m : Int) := by omega
            rw [← hpa] at c0
            obtain ⟨_, s1⟩ := bobj_cells (kb_below KS.out hx)
            have F0 : ∀ u : Later wr, u.v.cell? ⟨w.heap.size, 1, none⟩ = some (.slice (some ⟨mb, mo, none⟩) m d) := fun u => u.cell s1
            have F1 : ∀ u : Later wr, u.v.cell? ⟨mb, mo + i * 2, none⟩ = some (.int .i64 p.a) := fun u => u.cell c0
            have F2 : ∀ u : Later wr, u.v.cell? ⟨pb, po + i * 2, none⟩ = some (.int .i64 p.a) := fun u => u.cell p0
            have F3 : ∀ u : Later wr, u.v.cell? ⟨pb, po + i * 2 + 1, none⟩ = some (.int .i64 p.b) := fun u => u.cell p1
            have F4 : ∀ u : Later wr, u.v.cell? ⟨qb, qo + i, none⟩ = some (.int .i64 p.b) := fun u => u.cell r0
            clear hx hp hz hy hv hpa hy' c0 s1 p0 p1 r0
            go_wp2
            refine wp_region_later (by kernel_rfl) (by kernel_rfl) ?_
            repeat go_big_quiet_step (fail)
            refine wpQuiet_nil ?_
            rintro w10 ⟨⟨_, b10⟩, rfl⟩
            have B10 := Lib.hid b10
            clear b10 F0 F1 F2 F3 F4
            go_wp2
            go_roundg (q' - (i + 1))
            case measure => have := HI.out; omega
            case rel => exact ⟨i + 1, by omega, by simp, LX.out.trans (B10.out.mono LX.out.size)⟩
          · have hiq' : ¬ (i : Int) < (q' : Int) := by omega
            have L_ := Lib.hid (L.out.trans (hx.mono L.out.size))
            have KS_ := Lib.hid (kb_below KS.out hx)
            have KT_ := Lib.hid (kb_below KT.out hx)
            have KG_ := Lib.hid (kb_below KG.out hx)
            have K10_ := Lib.hid (kb_below K10.out hx)
            have HG_ := Lib.hid (HG.out.below hx)
            have H3_ := Lib.hid (H3.out.below hx)
            clear L KS KT KG K10 HG H3 hx LX PR QR
            have L := L_
            have KS := KS_
            have KT := KT_
            have KG := KG_
            have K10 := K10_
            have HG := HG_
            have H3 := H3_
            clear L_ KS_ KT_ KG_ K10_ HG_ H3_
            obtain ⟨t0, t1, t2⟩ := cells3 KT.out
            go_wp2_with fail
            clear t0 t1 t2
            refine (bone_any y0 y1 U0.out wr).mono ?_
            rintro r v6 ⟨A5, c5, M5, d5, rfl, h5, _, b8⟩
            have K17 : Hid ((v6.alloc (.cells #[.slice A5 1 c5, .slice M5 1 d5] 34)).heap[v6.heap.size]? = some (bobj 34 A5 1 c5 M5 1 d5)) := Lib.hid (heap_alloc_at v6 _)
            have b8' : Below wr.heap.size wr (v6.alloc (.cells #[.slice A5 1 c5, .slice M5 1 d5] 34)) := b8.alloc b8.size _
            have H5 := Lib.hid (h5.below (below_alloc v6 (.cells #[.slice A5 1 c5, .slice M5 1 d5] 34)))
            go_upto_region 16 with fail
            generalize v6.alloc (.cells #[.slice A5 1 c5, .slice M5 1 d5] 34) = v7 at *
            generalize v6.heap.size = g17 at *
            have L_ := Lib.hid (L.out.trans (b8'.mono L.out.size))
            have KS_ := Lib.hid (kb_below KS.out b8')
            have KT_ := Lib.hid (kb_below KT.out b8')
            have KG_ := Lib.hid (kb_below KG.out b8')
            have K10_ := Lib.hid (kb_below K10.out b8')
            have HG_ := Lib.hid (HG.out.below b8')
            have H3_ := Lib.hid (H3.out.below b8')
            clear L KS KT KG K10 HG H3
            have L := L_
            have KS := KS_
            have KT := KT_
            have KG := KG_
            have K10 := K10_
            have HG := HG_
            have H3 := H3_
            clear L_ KS_ KT_ KG_ K10_ HG_ H3_
            clear b8 b8' h5
            have hm2 : m2 ≤ 1000 := by have h1 := HG.out.mlen; have h2 := addM_le zs ms y0 y1 y2; have h3 := HB.out.mlen; omega
            have HS : Hid (∀ wx, Below v7.heap.size v7 wx → (wx.cell? ⟨w.heap.size, 0, none⟩ = some (.slice A n k) ∧ wx.cell? ⟨w.heap.size, 1, none⟩ = some (.slice M m d)) ∧ (wx.cell? ⟨w.heap.size + 1, 0, none⟩ = some (.int .i64 y0) ∧ wx.cell? ⟨w.heap.size + 1, 1, none⟩ = some (.int .i64 y1) ∧ wx.cell? ⟨w.heap.size + 1, 2, none⟩ = some (.int .i64 y2)) ∧ (wx.cell? ⟨g, 0, none⟩ = some (.slice A2 n2 c2) ∧ wx.cell? ⟨g, 1, none⟩ = some (.slice M2 m2 d2)) ∧ (wx.cell? ⟨g10, 0, none⟩ = some (.slice A3 n3 c3) ∧ wx.cell? ⟨g10, 1, none⟩ = some (.slice M3 m3 d3)) ∧ (wx.cell? ⟨g17, 0, none⟩ = some (.slice A5 1 c5) ∧ wx.cell? ⟨g17, 1, none⟩ = some (.slice M5 1 d5))) := Lib.hid (fun wx hb => ⟨bobj_cells (kb_below KS.out hb), cells3 (kb_below KT.out hb), bobj_cells (kb_below KG.out hb), bobj_cells (kb_below K10.out hb), bobj_cells (kb_below K17.out hb)⟩)
            have S1 : Hid (∀ wx, Below v7.heap.size v7 wx → Calls Try.prog 37 #[batV A2 n2 c2 M2 m2 d2] wx fun r w' => ∃ M' d', r = .returned (batV A2 n2 c2 M' m2 d') ∧ Bat w' A2 n2 c2 M' m2 d' (addA zs y1 y2) (addM zs ms y0 y1 y2) ∧ Below wx.heap.size wx w') := Lib.hid (fun wx hb => real13_any A2 n2 c2 M2 m2 d2 _ _ wx (HG.out.below hb) hm2)
            have S2 : Hid (∀ M' d' wx, Bat wx A2 n2 c2 M' m2 d' (addA zs y1 y2) (addM zs ms y0 y1 y2) → Below v7.heap.size v7 wx → Calls Try.prog 36 #[batV A2 n2 c2 M' m2 d', batV A3 n3 c3 M3 m3 d3] wx fun r w' => r = .returned (.bool true) ∧ Below wx.heap.size wx w') := Lib.hid (fun M' d' wx h hb => by
              have h' := H3.out.below hb
              obtain rfl : n3 = n2 := h'.alen.symm.trans h.alen
              obtain rfl : m3 = m2 := h'.mlen.symm.trans h.mlen
              exact rsame_any A2 n3 c2 M' m3 d' A3 c3 M3 d3 _ _ wx h h')
            have S3 : Hid (∀ wx, Below v7.heap.size v7 wx → Calls Try.prog 32 #[batV A n k M m d] wx fun r w' => ∃ M' d', r = .returned (batV A n k M' m d') ∧ Bat w' A n k M' m d' zs ms ∧ Below wx.heap.size wx w') := Lib.hid (fun wx hb => made_any A n k M m d zs ms wx (HB.out.below (L.out.trans (hb.mono L.out.size))) hm)
            have S4 : Hid (∀ M' d' wx, Calls Try.prog 38 #[batV A n k M' m d', .int .i64 y2] wx fun r w' => r = .returned (.bool (decide (y2 ≤ (n : Int)))) ∧ Below wx.heap.size wx w') := Lib.hid (fun M' d' wx => bfull_any A n k M' m d' y2 wx)
            have S6 : Hid (∀ M' d' wx, Bat wx A n k M' m d' zs ms → Calls Try.prog 39 #[batV A n k M' m d'] wx fun r w' => r = .returned (.int .i64 (leadL ms)) ∧ Below wx.heap.size wx w') := Lib.hid (fun M' d' wx h => blead_any A n k M' m d' zs ms wx h)
            have S7 : Hid (∀ wx, Below v7.heap.size v7 wx → Calls Try.prog 40 #[batV A n k M m d] wx fun r w' => r = .returned (.int .i64 (leadL ms)) ∧ Below wx.heap.size wx w') := Lib.hid (fun wx hb => rlead_any A n k M m d zs ms wx (HB.out.below (L.out.trans (hb.mono L.out.size))))
            have S8 : Hid (∀ wx, Below v7.heap.size v7 wx → Calls Try.prog 37 #[batV A5 1 c5 M5 1 d5] wx fun r w' => ∃ M' d', r = .returned (batV A5 1 c5 M' 1 d') ∧ Bat w' A5 1 c5 M' 1 d' [y1] [⟨y0, 0⟩] ∧ Below wx.heap.size wx w') := Lib.hid (fun wx hb => real13_any A5 1 c5 M5 1 d5 _ _ wx (H5.out.below hb) (by decide))
            have S9 : Hid (∀ wx, Calls Try.prog 41 #[.int .i64 y0, .int .i64 y1] wx fun r w' => ∃ A c M d, r = .returned (batV A 1 c M 1 d) ∧ Bat w' A 1 c M 1 d [y1] [⟨y0, 0⟩] ∧ (Fresh wx.heap.size A ∧ Fresh wx.heap.size M) ∧ Below wx.heap.size wx w') := Lib.hid (fun wx => rone_any y0 y1 U0.out wx)
            have SA : Hid (∀ A' c' M' d' A'' c'' M'' d'' wx, Bat wx A' 1 c' M' 1 d' [y1] [⟨y0, 0⟩] → Bat wx A'' 1 c'' M'' 1 d'' [y1] [⟨y0, 0⟩] → Calls Try.prog 36 #[batV A' 1 c' M' 1 d', batV A'' 1 c'' M'' 1 d''] wx fun r w' => r = .returned (.bool true) ∧ Below wx.heap.size wx w') := Lib.hid (fun A' c' M' d' A'' c'' M'' d'' wx h h' => rsame_any A' 1 c' M' 1 d' A'' c'' M'' d'' _ _ wx h h')
            have D0 : Hid (Below v7.heap.size v7 v7.drew) := Lib.hid (ali_below (drew_ali _))
            clear KS KT KG K10 K17 HG H3 H5 HB U0 U1 hn hm hm2 hm50
            go_wp2
            go_region_held3 (fun wx => (wx.cell? ⟨w.heap.size, 0, none⟩ = some (.slice A n k) ∧ wx.cell? ⟨w.heap.size, 1, none⟩ = some (.slice M m d)) ∧ (wx.cell? ⟨w.heap.size + 1, 0, none⟩ = some (.int .i64 y0) ∧ wx.cell? ⟨w.heap.size + 1, 1, none⟩ = some (.int .i64 y1) ∧ wx.cell? ⟨w.heap.size + 1, 2, none⟩ = some (.int .i64 y2)) ∧ (wx.cell? ⟨g, 0, none⟩ = some (.slice A2 n2 c2) ∧ wx.cell? ⟨g, 1, none⟩ = some (.slice M2 m2 d2)) ∧ (wx.cell? ⟨g10, 0, none⟩ = some (.slice A3 n3 c3) ∧ wx.cell? ⟨g10, 1, none⟩ = some (.slice M3 m3 d3)) ∧ (wx.cell? ⟨g17, 0, none⟩ = some (.slice A5 1 c5) ∧ wx.cell? ⟨g17, 1, none⟩ = some (.slice M5 1 d5)))
              (first
                | with_reducible exact HS.out _ D0.out
                | with_reducible exact HS.out _ t1
                | with_reducible exact HS.out _ t2
                | with_reducible exact HS.out _ t3
                | with_reducible exact HS.out _ t4
                | with_reducible exact HS.out _ t5
                | with_reducible exact HS.out _ t6
                | with_reducible exact HS.out _ t7
                | with_reducible exact HS.out _ t8
                | with_reducible exact HS.out _ t9
                | with_reducible exact HS.out _ tA
                )
              (first
                | (go_at_call 36; refine (SA.out A5 c5 M9 d9 A8 c8 M8 d8 _ R8.out r9).mono ?_; rintro r zA ⟨rfl, ba⟩; have tA := t9.trans (ba.mono t9.size))
                | (go_at_call 41; refine (S9.out _).mono ?_; rintro r z9 ⟨A8, c8, M8, d8, rfl, r9, _, b9⟩; have t9 := t8.trans (b9.mono t8.size); have R8 := Lib.hid (r8.below b9))
                | (go_at_call 37; refine (S8.out _ t7).mono ?_; rintro r z8 ⟨M9, d9, rfl, r8, b8⟩; have t8 := t7.trans (b8.mono t7.size))
                | (go_at_call 40; refine (S7.out _ t6).mono ?_; rintro r z7 ⟨rfl, b7⟩; have t7 := t6.trans (b7.mono t6.size))
                | (go_at_call 39; refine (S6.out M7 d7 _ r5).mono ?_; rintro r z6 ⟨rfl, b6⟩; have t6 := t5.trans (b6.mono t5.size))
                | (go_at_call 32; refine (S3.out _ t4).mono ?_; rintro r z5 ⟨M7, d7, rfl, r5, b5⟩; have t5 := t4.trans (b5.mono t4.size))
                | (go_at_call 38; refine (S4.out M6 d6 _).mono ?_; rintro r z4 ⟨rfl, b4⟩; have t4 := t3.trans (b4.mono t3.size))
                | (go_at_call 32; refine (S3.out _ t2).mono ?_; rintro r z3 ⟨M6, d6, rfl, r3, b3⟩; have t3 := t2.trans (b3.mono t2.size))
                | (go_at_call 36; refine (S2.out M1 d1 _ r1 t1).mono ?_; rintro r z2 ⟨rfl, b2⟩; have t2 := t1.trans (b2.mono t1.size))
                | (go_at_call 37; refine (S1.out _ D0.out).mono ?_; rintro r z1 ⟨M1, d1, rfl, r1, b1⟩; have t1 := D0.out.trans (b1.mono D0.out.size)))
            have TT := Lib.hid tA
            clear t1 t2 t3 t4 t5 t6 t7 t8 t9 tA b1 b2 b3 b4 b5 b6 b7 b8 b9 ba r1 r3 r5 r8 r9
            go_wp2
            go_ret
            exact ⟨rfl, L.out.trans (TT.out.mono L.out.size)⟩

set_option maxRecDepth 100000 in
theorem lifted (os : Os) (started : os.Started) (H : Type) (enc : TypeId × Value → H) :
    ReturnsInHanded {} Try.checked os 9 .any (Rows.batchTellsSpec.pre6 enc Try.prog Try.f9 Rows.batchTellsRow.domain false) (Rows.batchTellsSpec.post enc Try.prog Try.f9 false true false false) := by
  refine returnsInHanded_of_change_sized (C := Try.checked) own started (by kernel_rfl) Try.func9
    (ChangeSpec.witness6 (enc := enc) (C := Try.checked) false ⟨#[], #[.agg #[.slice none 0 0, .slice none 0 0], .agg #[.int .i64 0, .int .i64 0, .int .i64 0], .slice none 0 0], []⟩ 8 (by kernel_rfl) (by kernel_rfl) (by kernel_rfl) (by kernel_rfl)) ?_
  intro W base args ds gs before hval0 hW hcnd hsz0 _
  have hval : ∀ (j : Nat) t v, Try.f9.params[j]? = some t → args[j]? = some v → Value.okWide Try.prog W .any base t v := hval0
  have hsz : (DataW.weightsEach Try.prog (Try.f9.params.toList ++ Rows.batchTellsSpec.plain.varTypes Try.prog) (ds ++ gs)).all (· ≤ reachBytes) = true := hsz0
  have hW' := hW
  obtain ⟨p, q, hA0, hV, rfl, hfz, hnd⟩ := hW
  have hA : DataW.TrodAll enc Try.prog W 0 (fun _ => true) true Try.f9.params.toList args.toList ds p := hA0
  rw [Try.params9] at hA hval hsz
  have hAk := hA
  obtain ⟨v0, vs0, d0, ds0, p0, q0, hargs, rfl, rfl, h0, r0⟩ := trodAll_cons hA
  obtain ⟨v1, vs1, d1, ds1, p1, q1, rfl, rfl, rfl, h1, r1⟩ := trodAll_cons r0
  obtain ⟨v2, vs2, d2, ds2, p2, q2, rfl, rfl, rfl, h2, r2⟩ := trodAll_cons r1
  obtain ⟨rfl, rfl, rfl⟩ := trodAll_nil r2
  obtain rfl : args = #[v0, v1, v2] := by cases args; simp_all
  obtain ⟨rfl, rfl⟩ := trodVars_none hV
  obtain ⟨c0, rfl, w0⟩ := open_shape (ss := [.row [.int .i64] 8, .row [.int .i64, .int .i64] 16]) 8 (by kernel_rfl) (by kernel_rfl) (hval 0 25 v0 rfl rfl) h0 hsz 0 rfl rfl
  obtain ⟨c1, rfl, w1⟩ := open_flat (ks := [.int .i64, .int .i64, .int .i64]) 8 (by kernel_rfl) (by kernel_rfl) (hval 1 63 v1 rfl rfl) h1
  obtain ⟨a2, l2, k2, L2, rfl, w2⟩ := open_slice_flat (ks := [.int .i64]) (bytes := 8) 8 Try.underlying22 (by kernel_rfl) (by kernel_rfl) (by decide) (by kernel_rfl) (hval 2 22 v2 rfl rfl) h2 (fun elems rest hd => by subst hd; exact sized_slice hsz (j := 2) (t := 22) (e := 3) rfl rfl Try.underlying22)
  clear hA0 hval0 hsz0
  refine (walk W c0 w0 c1 w1 a2 l2 k2 L2 w2).mono fun e W' ⟨he, bel⟩ => ?_
  subst he
  exact ⟨_, rfl, _, _, _, [], _, [], hW', trodAll_mk1 (shut_bool Try.underlying4 _), trodAll_below laidOut bel _ _ _ _ (by kernel_rfl) hAk, rfl, bel.frame _, fun h => by cases h⟩

theorem over : Rows.batchTellsRow.holds Try.pinned (OpenSpec.ofChange Rows.batchTellsSpec) :=
  OpenClaim.holds_of_wide 9 Try.f9 rfl rfl rfl rfl rfl rfl rfl ⟨rfl, rfl, rfl, rfl, rfl⟩ rfl rfl rfl rfl rfl (by kernel_rfl) Try.func9 (by kernel_rfl)
    (of_decide_eq_true (by kernel_rfl)) (by unfold Func.isWrapper; first | (rw [if_pos (by decide +kernel)]; kernel_rfl) | (rw [if_neg (by decide +kernel)]; exact ⟨rfl, rfl⟩))
    (fun os started H enc _ => lifted os started H enc)

theorem proved : Rows.BatchTellsSaid := over
#print axioms proved
end Go.Proofs.Ytpfmjocpgnoepaa.batchTells
