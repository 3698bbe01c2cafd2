/- What is proved: BatchApart of porpoiselaw13 answers true for every input, and leaves its arguments as they were; conditions: those of the given row alone. -/
import Derived.Test.YthldhcjkjchbpaaKit
import Derived.Test.YthldhcjkjchbpaaAllM13
import Derived.Test.YthldhcjkjchbpaaRef13b
import Derived.Test.YthldhcjkjchbpaaTwin
import Derived.Test.YthldhcjkjchbpaaHand
import Derived.Deep.DeepCutAuto
namespace Go.Proofs.Ythldhcjkjchbpaa.batchApart
open Go.ChangeShapes Go.WideShapes Go.ChangeAt Go.RowKit Go.Deep
open Go.ChangeMaps (open_string shut_string)
set_option linter.unusedVariables false

theorem own : ownKnob Try.prog.godebug = none := by kernel_rfl
theorem laidOut : laidOutB Try.prog = true := by kernel_rfl



set_option maxRecDepth 100000 in
set_option maxHeartbeats 4000000 in
theorem walk (w : World) (a0 : Option Addr) (l0 k0 : Nat) (L0 : List (List Value)) (w0 : SliceIn w [.int .i64, .int .i64] 16 a0 l0 k0 L0) (c1 : Array Value) (w1 : Flat [.int .i64, .int .i64] c1.toList) (c2 : Array Value) (w2 : Flat [.int .i64, .int .i64] c2.toList) :
    Calls Try.prog 4 #[.slice a0 l0 k0, .agg c1, .agg c2] w fun e w' => e = .returned (.bool true) ∧ Below w.heap.size w w' := by
  obtain ⟨V, hrow, hfit, _, _⟩ := pairs_in w0
  obtain ⟨x, rfl, hxf⟩ := pair_agg w1
  obtain ⟨y, rfl, hyf⟩ := pair_agg w2
  obtain ⟨xa, xb⟩ := x
  obtain ⟨ya, yb⟩ := y
  have HR := Lib.hid hrow
  have HF := Lib.hid hfit
  have XF := Lib.hid hxf.1
  have YF := Lib.hid hyf.1
  obtain ⟨W, hW, bW, kx, ky, sW⟩ := two_new w (.cells #[.int .i64 xa, .int .i64 xb] 56) (.cells #[.int .i64 ya, .int .i64 yb] 56)
  have BW := Lib.hid bW
  have KX := Lib.hid kx
  have KY := Lib.hid ky
  clear w0 w1 w2 hrow hfit hxf hyf bW kx ky sW
  go_enter Try.func4, Try.ntmps4
  go_wp2_with fail
  clear hW
  refine (awake13_any W).mono ?_
  rintro r wa ⟨rfl, ba⟩
  have LA := Lib.hid (BW.out.trans (ba.mono BW.out.size))
  have KXa := Lib.hid (kb_below KX.out ba)
  have KYa := Lib.hid (kb_below KY.out ba)
  clear ba KX KY BW
  go_wp2_with fail
  refine (all_any a0 l0 k0 V 9 wa (HR.out.later LA.out) HF.out).mono ?_
  rintro r w2 ⟨A, n, c, M, m, d, T, t, f, rfl, bt, rt, _, up, b2⟩
  have k2 := heap_alloc_at w2 (bobj 31 A n c M m d)
  have b3 := below_alloc w2 (bobj 31 A n c M m d)
  have B3 := Lib.hid (LA.out.trans ((b2.trans (b3.mono b2.size)).mono LA.out.size))
  have KX := Lib.hid (kb_below KXa.out (b2.trans (b3.mono b2.size)))
  have KY := Lib.hid (kb_below KYa.out (b2.trans (b3.mono b2.size)))
  have BT := Lib.hid (bt.below b3)
  have K3 := Lib.hid k2
  have hn20 : n ≤ 20 := by have h1 := up.1; have h2 := bt.alen; omega
  have hm20 : m ≤ 20 := by have h1 := up.2.1; have h2 := bt.mlen; omega
  generalize hg : w2.heap.size = g8 at *
  clear k2 b2 b3 bt rt up KXa KYa LA
  go_wp2_with fail
  generalize w2.alloc (bobj 31 A n c M m d) = w3 at *
  generalize allS 9 (V.take 20) = S at *
  obtain ⟨zs, ms, ts⟩ := S
  simp only at BT
  have hm1 : m ≤ 1000 := by omega
  have HS3 : Hid (∀ wx, Below w3.heap.size w3 wx → wx.cell? ⟨g8, 0, none⟩ = some (.slice A n c) ∧ wx.cell? ⟨g8, 1, none⟩ = some (.slice M m d)) := Lib.hid (fun wx hb => cells_later K3.out hb)
  have hfld : ∀ (M' : Option Addr) (m' d' : Nat) (wx : World), (Instr.field 25 (batV A n c M' m' d') 1).run Try.prog wx = .ok (.slice M' m' d') wx := fun _ _ _ _ => by kernel_rfl
  have LA3 : Hid (([] : List Int).length + n ≤ 1048576) := Lib.hid (by simp; omega)
  have LB3 : Hid (([] : List P2).length + m ≤ 1048576) := Lib.hid (by simp; omega)
  go_cut [10] (fun vg wq => ∃ (g : Nat) (A1 : Option Addr) (n1 c1 : Nat) (M1 : Option Addr) (m1 d1 : Nat), vg = .pointer (some ⟨g, 0, none⟩) ∧ Twin irec prec w3 wq 25 3 45 g (.slice A1 n1 c1) (.slice M1 m1 d1) zs ms)
  case first =>
    rename_i c2 J0 K0 c1 c0
    clear c2 B3 KX KY HR HF XF YF hg
    refine wp_region_held_drew (S := fun wx => wx.cell? ⟨g8, 0, none⟩ = some (.slice A n c) ∧ wx.cell? ⟨g8, 1, none⟩ = some (.slice M m d)) (by kernel_rfl) (HS3.out _ (ali_below (drew_ali w3))) (fun hHeld => ?_)
    have Bwt0 : Hid (Below w3.heap.size w3 w3.drew) := Lib.hid (ali_below (drew_ali _))
    generalize w3.drew = wt0 at *
    refine wpAnyH_take (i := 1) (oi := ⟨_, _, _, _, _, _⟩) (v := ?_) rfl (by kernel_rfl) (by kernel_rfl) (by kernel_rfl) (fun _ _ _ h => h) (Or.inl ⟨by rfl, ?_⟩) (by assumption) ?_
    rotate_left
    · intro w hSw; (try dsimp only at hSw); go_simp; try (with_reducible rfl)
    try go_frame
    refine wpAnyH_take (i := 2) (oi := ⟨_, _, _, _, _, _⟩) (v := ?_) rfl (by kernel_rfl) (by kernel_rfl) (by kernel_rfl) (fun _ _ _ h => h) (Or.inl ⟨by rfl, ?_⟩) (by assumption) ?_
    rotate_left
    · intro w hSw; (try dsimp only at hSw); go_simp; try (with_reducible rfl)
    try go_frame
    refine wpAnyH_take (i := 5) (oi := ⟨_, _, _, _, _, _⟩) (v := ?_) rfl (by kernel_rfl) (by kernel_rfl) (by kernel_rfl) (fun _ _ _ h => h) (Or.inl ⟨by rfl, ?_⟩) (by assumption) ?_
    rotate_left
    · intro w hSw; (try dsimp only at hSw); go_simp; try (with_reducible rfl)
    try go_frame
    refine wpAnyH_ready (rs := [0, 4, 10]) (by kernel_rfl) (by simp) ?_
    refine ready_cons (i := 0) (o := ⟨_, _, _, _, _, _⟩) rfl ?_ (ready_cons (i := 4) (o := ⟨_, _, _, _, _, _⟩) rfl ?_ (ready_cons (i := 10) (o := ⟨_, _, _, _, _, _⟩) rfl ?_ AllReadyH.nil))
    · intro K hK
      constructor
      go_simp
      have bwt1 := Bwt0.out.alloc Bwt0.out.size (.cells #[] 3)
      refine hK.out _ _ (HS3.out _ bwt1) (fun hHeld => ?_)
      have Bwt1 := Lib.hid bwt1
      have OAwt1 := Lib.hid (OwnR.empty (R := irec) wt0 3 (base := w3.heap.size) Bwt0.out.size)
      clear hK K hHeld bwt1 Bwt0 
      generalize wt0.heap.size = gwt1 at OAwt1 ⊢
      generalize wt0.alloc (.cells #[] 3) = wt1 at OAwt1 Bwt1 ⊢
      refine wpAnyH_ready (rs := [3, 4, 10]) (by kernel_rfl) (by simp) ?_
      refine ready_cons (i := 3) (o := ⟨_, _, _, _, _, _⟩) rfl ?_ (ready_cons (i := 4) (o := ⟨_, _, _, _, _, _⟩) rfl ?_ (ready_cons (i := 10) (o := ⟨_, _, _, _, _, _⟩) rfl ?_ AllReadyH.nil))
      · intro K hK
        refine Stepping.mk (appS_step tI (base := w3.heap.size) rfl (.tmp 20) (.tmp 22) rfl rfl rfl OAwt1.out (BT.out.below Bwt1.out).ar LA3.out Bwt1.out.size ?_)
        intro ywt2 wt2 own gr _
        have bwt2 := grown_base Bwt1.out Bwt1.out.size gr OAwt1.out
        obtain ⟨Nwt2, nwt2, cwt2, hv, _, _, _, _⟩ := own.row'
        subst hv
        have OAwt2 := Lib.hid own
        have Bwt2 := Lib.hid bwt2
        refine hK.out _ _ (HS3.out _ bwt2) (fun hHeld => ?_)
        clear hK K own gr bwt2 Bwt1 OAwt1
        try go_frame
        refine wpAnyH_ready (rs := [4, 6, 10]) (by kernel_rfl) (by simp) ?_
        refine ready_cons (i := 4) (o := ⟨_, _, _, _, _, _⟩) rfl ?_ (ready_cons (i := 6) (o := ⟨_, _, _, _, _, _⟩) rfl ?_ (ready_cons (i := 10) (o := ⟨_, _, _, _, _, _⟩) rfl ?_ AllReadyH.nil))
        · intro K hK
          constructor
          go_simp
          have bwt3 := Bwt2.out.alloc Bwt2.out.size (.cells #[] 45)
          refine hK.out _ _ (HS3.out _ bwt3) (fun hHeld => ?_)
          have Bwt3 := Lib.hid bwt3
          have OAwt3 := Lib.hid (OwnR.alloc OAwt2.out (.cells #[] 45))
          have OBwt3 := Lib.hid (OwnR.empty (R := prec) wt2 45 (base := w3.heap.size) Bwt2.out.size)
          clear hK K hHeld bwt3 Bwt2 OAwt2
          generalize wt2.heap.size = gwt3 at OAwt3 OBwt3 ⊢
          generalize wt2.alloc (.cells #[] 45) = wt3 at OAwt3 OBwt3 Bwt3 ⊢
          refine wpAnyH_ready (rs := [6, 10]) (by kernel_rfl) (by simp) ?_
          refine ready_cons (i := 6) (o := ⟨_, _, _, _, _, _⟩) rfl ?_ (ready_cons (i := 10) (o := ⟨_, _, _, _, _, _⟩) rfl ?_ AllReadyH.nil)
          · intro K hK
            refine call_step (f := 20) (args := #[batV A n c M m d]) rfl (by kernel_rfl) ?_
            refine (real13_any A n c M m d _ _ wt3 (BT.out.below Bwt3.out) hm1).mono ?_; rintro r wt4 ⟨Mrwt4, drwt4, rfl, hbr, hl⟩; have hr := hbr.mr; clear hbr
            have bwt4 := Bwt3.out.trans (hl.mono Bwt3.out.size)
            have OAwt4 := Lib.hid (OwnR.below OAwt3.out hl)
            have OBwt4 := Lib.hid (OwnR.below OBwt3.out hl)
            have RRwt4 := Lib.hid hr
            have Bwt4 := Lib.hid bwt4
            refine ⟨_, rfl, ?_⟩
            refine hK.out _ _ (HS3.out _ bwt4) (fun hHeld => ?_)
            clear hK K hl hr bwt4 Bwt3 OAwt3 OBwt3
            try go_frame
            refine wpAnyH_take (i := 7) (oi := ⟨_, _, _, _, _, _⟩) (v := ?_) rfl (by kernel_rfl) (by kernel_rfl) (by kernel_rfl) (fun _ _ _ h => h) (Or.inl ⟨by rfl, ?_⟩) (by assumption) ?_
            rotate_left
            · intro w hSw; (try dsimp only at hSw); go_simp; try (with_reducible rfl)
            try go_frame
            refine wpAnyH_ready (rs := [8, 10]) (by kernel_rfl) (by simp) ?_
            refine ready_cons (i := 8) (o := ⟨_, _, _, _, _, _⟩) rfl ?_ (ready_cons (i := 10) (o := ⟨_, _, _, _, _, _⟩) rfl ?_ AllReadyH.nil)
            · intro K hK
              refine Stepping.mk (appS_step tMR (base := w3.heap.size) rfl (.tmp 24) (.tmp 27) rfl rfl rfl OBwt4.out RRwt4.out LB3.out Bwt4.out.size ?_)
              intro ywt5 wt5 own gr _
              have bwt5 := grown_base Bwt4.out Bwt4.out.size gr OBwt4.out
              have OAwt5 := Lib.hid (OwnR.other OAwt4.out gr OBwt4.out (by decide))
              obtain ⟨Nwt5, nwt5, cwt5, hv, _, _, _, _⟩ := own.row'
              subst hv
              have OBwt5 := Lib.hid own
              have Bwt5 := Lib.hid bwt5
              refine hK.out _ _ (HS3.out _ bwt5) (fun hHeld => ?_)
              clear hK K own gr bwt5 Bwt4 OAwt4 OBwt4 RRwt4
              try go_frame
              refine wpAnyH_take (i := 9) (oi := ⟨_, _, _, _, _, _⟩) (v := ?_) rfl (by kernel_rfl) (by kernel_rfl) (by kernel_rfl) (fun _ _ _ h => h) (Or.inl ⟨by rfl, ?_⟩) (by assumption) ?_
              rotate_left
              · intro w hSw; (try dsimp only at hSw); go_simp; try (with_reducible rfl)
              try go_frame
              refine wpAnyH_ready (rs := [10]) (by kernel_rfl) (by simp) ?_
              refine ready_cons (i := 10) (o := ⟨_, _, _, _, _, _⟩) rfl ?_ AllReadyH.nil
              · intro K hK
                constructor
                go_simp
                have bwt6 := Bwt5.out.alloc Bwt5.out.size (bobj 25 none 0 0 none 0 0)
                refine hK.out _ _ (HS3.out _ bwt6) (fun hHeld => ?_)
                have Bwt6 := Lib.hid bwt6
                have OAwt6 := Lib.hid (OwnR.alloc OAwt5.out (bobj 25 none 0 0 none 0 0))
                have OBwt6 := Lib.hid (OwnR.alloc OBwt5.out (bobj 25 none 0 0 none 0 0))
                have KGwt6 := Lib.hid (heap_alloc_at wt5 (bobj 25 none 0 0 none 0 0))
                have GLwt6 : Hid (w3.heap.size ≤ wt5.heap.size) := Lib.hid Bwt5.out.size
                clear hK K hHeld bwt6 Bwt5 OAwt5 OBwt5
                generalize wt5.heap.size = gwt6 at OAwt6 OBwt6 KGwt6 GLwt6 ⊢
                generalize wt5.alloc (bobj 25 none 0 0 none 0 0) = wt6 at OAwt6 OBwt6 KGwt6 GLwt6 Bwt6 ⊢
                refine wpAnyH_ready (rs := [11]) (by kernel_rfl) (by simp) ?_
                refine ready_cons (i := 11) (o := ⟨_, _, _, _, _, _⟩) rfl ?_ AllReadyH.nil
                · intro K hK
                  have TW := twin_store Bwt6.out GLwt6.out KGwt6.out OAwt6.out OBwt6.out (by decide) (by decide)
                  obtain ⟨z0, z1⟩ := bobj_cells KGwt6.out
                  have zf0 := frozen_of KGwt6.out 0
                  have zf1 := frozen_of KGwt6.out 1
                  have HTW := Lib.hid TW
                  clear TW
                  constructor
                  go_simp
                  refine hK.out _ _ (HS3.out _ HTW.out.low) (fun hHeld => ?_)
                  clear hK K
                  refine wpAnyH_done (by kernel_rfl) ?_ _
                  go_wp2
                  go_meet
                  exact ⟨_, _, _, _, _, _, _, rfl, HTW.out⟩
            · intro K hK
              constructor
              go_simp
              have bwt8 := Bwt4.out.alloc Bwt4.out.size (bobj 25 none 0 0 none 0 0)
              refine hK.out _ _ (HS3.out _ bwt8) (fun hHeld => ?_)
              have Bwt8 := Lib.hid bwt8
              have OAwt8 := Lib.hid (OwnR.alloc OAwt4.out (bobj 25 none 0 0 none 0 0))
              have OBwt8 := Lib.hid (OwnR.alloc OBwt4.out (bobj 25 none 0 0 none 0 0))
              have RRwt8 := Lib.hid (RowR.later RRwt4.out (below_alloc _ (bobj 25 none 0 0 none 0 0)))
              have KGwt8 := Lib.hid (heap_alloc_at wt4 (bobj 25 none 0 0 none 0 0))
              have GLwt8 : Hid (w3.heap.size ≤ wt4.heap.size) := Lib.hid Bwt4.out.size
              clear hK K hHeld bwt8 Bwt4 OAwt4 OBwt4 RRwt4
              generalize wt4.heap.size = gwt8 at OAwt8 OBwt8 KGwt8 GLwt8 ⊢
              generalize wt4.alloc (bobj 25 none 0 0 none 0 0) = wt8 at OAwt8 OBwt8 KGwt8 GLwt8 RRwt8 Bwt8 ⊢
              refine wpAnyH_ready (rs := [8]) (by kernel_rfl) (by simp) ?_
              refine ready_cons (i := 8) (o := ⟨_, _, _, _, _, _⟩) rfl ?_ AllReadyH.nil
              · intro K hK
                refine Stepping.mk (appS_step tMR (base := w3.heap.size) rfl (.tmp 24) (.tmp 27) rfl rfl rfl OBwt8.out RRwt8.out LB3.out Bwt8.out.size ?_)
                intro ywt9 wt9 own gr _
                have bwt9 := grown_base Bwt8.out Bwt8.out.size gr OBwt8.out
                have OAwt9 := Lib.hid (OwnR.other OAwt8.out gr OBwt8.out (by decide))
                have KGwt9 := Lib.hid (kept_other KGwt8.out gr OBwt8.out (by decide))
                obtain ⟨Nwt9, nwt9, cwt9, hv, _, _, _, _⟩ := own.row'
                subst hv
                have OBwt9 := Lib.hid own
                have Bwt9 := Lib.hid bwt9
                refine hK.out _ _ (HS3.out _ bwt9) (fun hHeld => ?_)
                clear hK K own gr bwt9 Bwt8 OAwt8 KGwt8 OBwt8 RRwt8
                try go_frame
                refine wpAnyH_take (i := 9) (oi := ⟨_, _, _, _, _, _⟩) (v := ?_) rfl (by kernel_rfl) (by kernel_rfl) (by kernel_rfl) (fun _ _ _ h => h) (Or.inl ⟨by rfl, ?_⟩) (by assumption) ?_
                rotate_left
                · intro w hSw; (try dsimp only at hSw); go_simp; try (with_reducible rfl)
                try go_frame
                refine wpAnyH_ready (rs := [11]) (by kernel_rfl) (by simp) ?_
                refine ready_cons (i := 11) (o := ⟨_, _, _, _, _, _⟩) rfl ?_ AllReadyH.nil
                · intro K hK
                  have TW := twin_store Bwt9.out GLwt8.out KGwt9.out OAwt9.out OBwt9.out (by decide) (by decide)
                  obtain ⟨z0, z1⟩ := bobj_cells KGwt9.out
                  have zf0 := frozen_of KGwt9.out 0
                  have zf1 := frozen_of KGwt9.out 1
                  have HTW := Lib.hid TW
                  clear TW
                  constructor
                  go_simp
                  refine hK.out _ _ (HS3.out _ HTW.out.low) (fun hHeld => ?_)
                  clear hK K
                  refine wpAnyH_done (by kernel_rfl) ?_ _
                  go_wp2
                  go_meet
                  exact ⟨_, _, _, _, _, _, _, rfl, HTW.out⟩
          · intro K hK
            constructor
            go_simp
            have bwt11 := Bwt3.out.alloc Bwt3.out.size (bobj 25 none 0 0 none 0 0)
            refine hK.out _ _ (HS3.out _ bwt11) (fun hHeld => ?_)
            have Bwt11 := Lib.hid bwt11
            have OAwt11 := Lib.hid (OwnR.alloc OAwt3.out (bobj 25 none 0 0 none 0 0))
            have OBwt11 := Lib.hid (OwnR.alloc OBwt3.out (bobj 25 none 0 0 none 0 0))
            have KGwt11 := Lib.hid (heap_alloc_at wt3 (bobj 25 none 0 0 none 0 0))
            have GLwt11 : Hid (w3.heap.size ≤ wt3.heap.size) := Lib.hid Bwt3.out.size
            clear hK K hHeld bwt11 Bwt3 OAwt3 OBwt3
            generalize wt3.heap.size = gwt11 at OAwt11 OBwt11 KGwt11 GLwt11 ⊢
            generalize wt3.alloc (bobj 25 none 0 0 none 0 0) = wt11 at OAwt11 OBwt11 KGwt11 GLwt11 Bwt11 ⊢
            refine wpAnyH_ready (rs := [6]) (by kernel_rfl) (by simp) ?_
            refine ready_cons (i := 6) (o := ⟨_, _, _, _, _, _⟩) rfl ?_ AllReadyH.nil
            · intro K hK
              refine call_step (f := 20) (args := #[batV A n c M m d]) rfl (by kernel_rfl) ?_
              refine (real13_any A n c M m d _ _ wt11 (BT.out.below Bwt11.out) hm1).mono ?_; rintro r wt12 ⟨Mrwt12, drwt12, rfl, hbr, hl⟩; have hr := hbr.mr; clear hbr
              have bwt12 := Bwt11.out.trans (hl.mono Bwt11.out.size)
              have OAwt12 := Lib.hid (OwnR.below OAwt11.out hl)
              have OBwt12 := Lib.hid (OwnR.below OBwt11.out hl)
              have KGwt12 := Lib.hid (kb_below KGwt11.out hl)
              have RRwt12 := Lib.hid hr
              have Bwt12 := Lib.hid bwt12
              refine ⟨_, rfl, ?_⟩
              refine hK.out _ _ (HS3.out _ bwt12) (fun hHeld => ?_)
              clear hK K hl hr bwt12 Bwt11 OAwt11 OBwt11 KGwt11
              try go_frame
              refine wpAnyH_take (i := 7) (oi := ⟨_, _, _, _, _, _⟩) (v := ?_) rfl (by kernel_rfl) (by kernel_rfl) (by kernel_rfl) (fun _ _ _ h => h) (Or.inl ⟨by rfl, ?_⟩) (by assumption) ?_
              rotate_left
              · intro w hSw; (try dsimp only at hSw); go_simp; try (with_reducible rfl)
              try go_frame
              refine wpAnyH_ready (rs := [8]) (by kernel_rfl) (by simp) ?_
              refine ready_cons (i := 8) (o := ⟨_, _, _, _, _, _⟩) rfl ?_ AllReadyH.nil
              · intro K hK
                refine Stepping.mk (appS_step tMR (base := w3.heap.size) rfl (.tmp 24) (.tmp 27) rfl rfl rfl OBwt12.out RRwt12.out LB3.out Bwt12.out.size ?_)
                intro ywt13 wt13 own gr _
                have bwt13 := grown_base Bwt12.out Bwt12.out.size gr OBwt12.out
                have OAwt13 := Lib.hid (OwnR.other OAwt12.out gr OBwt12.out (by decide))
                have KGwt13 := Lib.hid (kept_other KGwt12.out gr OBwt12.out (by decide))
                obtain ⟨Nwt13, nwt13, cwt13, hv, _, _, _, _⟩ := own.row'
                subst hv
                have OBwt13 := Lib.hid own
                have Bwt13 := Lib.hid bwt13
                refine hK.out _ _ (HS3.out _ bwt13) (fun hHeld => ?_)
                clear hK K own gr bwt13 Bwt12 OAwt12 KGwt12 OBwt12 RRwt12
                try go_frame
                refine wpAnyH_take (i := 9) (oi := ⟨_, _, _, _, _, _⟩) (v := ?_) rfl (by kernel_rfl) (by kernel_rfl) (by kernel_rfl) (fun _ _ _ h => h) (Or.inl ⟨by rfl, ?_⟩) (by assumption) ?_
                rotate_left
                · intro w hSw; (try dsimp only at hSw); go_simp; try (with_reducible rfl)
                try go_frame
                refine wpAnyH_ready (rs := [11]) (by kernel_rfl) (by simp) ?_
                refine ready_cons (i := 11) (o := ⟨_, _, _, _, _, _⟩) rfl ?_ AllReadyH.nil
                · intro K hK
                  have TW := twin_store Bwt13.out GLwt11.out KGwt13.out OAwt13.out OBwt13.out (by decide) (by decide)
                  obtain ⟨z0, z1⟩ := bobj_cells KGwt13.out
                  have zf0 := frozen_of KGwt13.out 0
                  have zf1 := frozen_of KGwt13.out 1
                  have HTW := Lib.hid TW
                  clear TW
                  constructor
                  go_simp
                  refine hK.out _ _ (HS3.out _ HTW.out.low) (fun hHeld => ?_)
                  clear hK K
                  refine wpAnyH_done (by kernel_rfl) ?_ _
                  go_wp2
                  go_meet
                  exact ⟨_, _, _, _, _, _, _, rfl, HTW.out⟩
        · intro K hK
          refine call_step (f := 20) (args := #[batV A n c M m d]) rfl (by kernel_rfl) ?_
          refine (real13_any A n c M m d _ _ wt2 (BT.out.below Bwt2.out) hm1).mono ?_; rintro r wt15 ⟨Mrwt15, drwt15, rfl, hbr, hl⟩; have hr := hbr.mr; clear hbr
          have bwt15 := Bwt2.out.trans (hl.mono Bwt2.out.size)
          have OAwt15 := Lib.hid (OwnR.below OAwt2.out hl)
          have RRwt15 := Lib.hid hr
          have Bwt15 := Lib.hid bwt15
          refine ⟨_, rfl, ?_⟩
          refine hK.out _ _ (HS3.out _ bwt15) (fun hHeld => ?_)
          clear hK K hl hr bwt15 Bwt2 OAwt2
          try go_frame
          refine wpAnyH_take (i := 7) (oi := ⟨_, _, _, _, _, _⟩) (v := ?_) rfl (by kernel_rfl) (by kernel_rfl) (by kernel_rfl) (fun _ _ _ h => h) (Or.inl ⟨by rfl, ?_⟩) (by assumption) ?_
          rotate_left
          · intro w hSw; (try dsimp only at hSw); go_simp; try (with_reducible rfl)
          try go_frame
          refine wpAnyH_ready (rs := [4, 10]) (by kernel_rfl) (by simp) ?_
          refine ready_cons (i := 4) (o := ⟨_, _, _, _, _, _⟩) rfl ?_ (ready_cons (i := 10) (o := ⟨_, _, _, _, _, _⟩) rfl ?_ AllReadyH.nil)
          · intro K hK
            constructor
            go_simp
            have bwt16 := Bwt15.out.alloc Bwt15.out.size (.cells #[] 45)
            refine hK.out _ _ (HS3.out _ bwt16) (fun hHeld => ?_)
            have Bwt16 := Lib.hid bwt16
            have OAwt16 := Lib.hid (OwnR.alloc OAwt15.out (.cells #[] 45))
            have RRwt16 := Lib.hid (RowR.later RRwt15.out (below_alloc _ (.cells #[] 45)))
            have OBwt16 := Lib.hid (OwnR.empty (R := prec) wt15 45 (base := w3.heap.size) Bwt15.out.size)
            clear hK K hHeld bwt16 Bwt15 OAwt15 RRwt15
            generalize wt15.heap.size = gwt16 at OAwt16 OBwt16 ⊢
            generalize wt15.alloc (.cells #[] 45) = wt16 at OAwt16 OBwt16 RRwt16 Bwt16 ⊢
            refine wpAnyH_ready (rs := [8, 10]) (by kernel_rfl) (by simp) ?_
            refine ready_cons (i := 8) (o := ⟨_, _, _, _, _, _⟩) rfl ?_ (ready_cons (i := 10) (o := ⟨_, _, _, _, _, _⟩) rfl ?_ AllReadyH.nil)
            · intro K hK
              refine Stepping.mk (appS_step tMR (base := w3.heap.size) rfl (.tmp 24) (.tmp 27) rfl rfl rfl OBwt16.out RRwt16.out LB3.out Bwt16.out.size ?_)
              intro ywt17 wt17 own gr _
              have bwt17 := grown_base Bwt16.out Bwt16.out.size gr OBwt16.out
              have OAwt17 := Lib.hid (OwnR.other OAwt16.out gr OBwt16.out (by decide))
              obtain ⟨Nwt17, nwt17, cwt17, hv, _, _, _, _⟩ := own.row'
              subst hv
              have OBwt17 := Lib.hid own
              have Bwt17 := Lib.hid bwt17
              refine hK.out _ _ (HS3.out _ bwt17) (fun hHeld => ?_)
              clear hK K own gr bwt17 Bwt16 OAwt16 OBwt16 RRwt16
              try go_frame
              refine wpAnyH_take (i := 9) (oi := ⟨_, _, _, _, _, _⟩) (v := ?_) rfl (by kernel_rfl) (by kernel_rfl) (by kernel_rfl) (fun _ _ _ h => h) (Or.inl ⟨by rfl, ?_⟩) (by assumption) ?_
              rotate_left
              · intro w hSw; (try dsimp only at hSw); go_simp; try (with_reducible rfl)
              try go_frame
              refine wpAnyH_ready (rs := [10]) (by kernel_rfl) (by simp) ?_
              refine ready_cons (i := 10) (o := ⟨_, _, _, _, _, _⟩) rfl ?_ AllReadyH.nil
              · intro K hK
                constructor
                go_simp
                have bwt18 := Bwt17.out.alloc Bwt17.out.size (bobj 25 none 0 0 none 0 0)
                refine hK.out _ _ (HS3.out _ bwt18) (fun hHeld => ?_)
                have Bwt18 := Lib.hid bwt18
                have OAwt18 := Lib.hid (OwnR.alloc OAwt17.out (bobj 25 none 0 0 none 0 0))
                have OBwt18 := Lib.hid (OwnR.alloc OBwt17.out (bobj 25 none 0 0 none 0 0))
                have KGwt18 := Lib.hid (heap_alloc_at wt17 (bobj 25 none 0 0 none 0 0))
                have GLwt18 : Hid (w3.heap.size ≤ wt17.heap.size) := Lib.hid Bwt17.out.size
                clear hK K hHeld bwt18 Bwt17 OAwt17 OBwt17
                generalize wt17.heap.size = gwt18 at OAwt18 OBwt18 KGwt18 GLwt18 ⊢
                generalize wt17.alloc (bobj 25 none 0 0 none 0 0) = wt18 at OAwt18 OBwt18 KGwt18 GLwt18 Bwt18 ⊢
                refine wpAnyH_ready (rs := [11]) (by kernel_rfl) (by simp) ?_
                refine ready_cons (i := 11) (o := ⟨_, _, _, _, _, _⟩) rfl ?_ AllReadyH.nil
                · intro K hK
                  have TW := twin_store Bwt18.out GLwt18.out KGwt18.out OAwt18.out OBwt18.out (by decide) (by decide)
                  obtain ⟨z0, z1⟩ := bobj_cells KGwt18.out
                  have zf0 := frozen_of KGwt18.out 0
                  have zf1 := frozen_of KGwt18.out 1
                  have HTW := Lib.hid TW
                  clear TW
                  constructor
                  go_simp
                  refine hK.out _ _ (HS3.out _ HTW.out.low) (fun hHeld => ?_)
                  clear hK K
                  refine wpAnyH_done (by kernel_rfl) ?_ _
                  go_wp2
                  go_meet
                  exact ⟨_, _, _, _, _, _, _, rfl, HTW.out⟩
            · intro K hK
              constructor
              go_simp
              have bwt20 := Bwt16.out.alloc Bwt16.out.size (bobj 25 none 0 0 none 0 0)
              refine hK.out _ _ (HS3.out _ bwt20) (fun hHeld => ?_)
              have Bwt20 := Lib.hid bwt20
              have OAwt20 := Lib.hid (OwnR.alloc OAwt16.out (bobj 25 none 0 0 none 0 0))
              have OBwt20 := Lib.hid (OwnR.alloc OBwt16.out (bobj 25 none 0 0 none 0 0))
              have RRwt20 := Lib.hid (RowR.later RRwt16.out (below_alloc _ (bobj 25 none 0 0 none 0 0)))
              have KGwt20 := Lib.hid (heap_alloc_at wt16 (bobj 25 none 0 0 none 0 0))
              have GLwt20 : Hid (w3.heap.size ≤ wt16.heap.size) := Lib.hid Bwt16.out.size
              clear hK K hHeld bwt20 Bwt16 OAwt16 OBwt16 RRwt16
              generalize wt16.heap.size = gwt20 at OAwt20 OBwt20 KGwt20 GLwt20 ⊢
              generalize wt16.alloc (bobj 25 none 0 0 none 0 0) = wt20 at OAwt20 OBwt20 KGwt20 GLwt20 RRwt20 Bwt20 ⊢
              refine wpAnyH_ready (rs := [8]) (by kernel_rfl) (by simp) ?_
              refine ready_cons (i := 8) (o := ⟨_, _, _, _, _, _⟩) rfl ?_ AllReadyH.nil
              · intro K hK
                refine Stepping.mk (appS_step tMR (base := w3.heap.size) rfl (.tmp 24) (.tmp 27) rfl rfl rfl OBwt20.out RRwt20.out LB3.out Bwt20.out.size ?_)
                intro ywt21 wt21 own gr _
                have bwt21 := grown_base Bwt20.out Bwt20.out.size gr OBwt20.out
                have OAwt21 := Lib.hid (OwnR.other OAwt20.out gr OBwt20.out (by decide))
                have KGwt21 := Lib.hid (kept_other KGwt20.out gr OBwt20.out (by decide))
                obtain ⟨Nwt21, nwt21, cwt21, hv, _, _, _, _⟩ := own.row'
                subst hv
                have OBwt21 := Lib.hid own
                have Bwt21 := Lib.hid bwt21
                refine hK.out _ _ (HS3.out _ bwt21) (fun hHeld => ?_)
                clear hK K own gr bwt21 Bwt20 OAwt20 KGwt20 OBwt20 RRwt20
                try go_frame
                refine wpAnyH_take (i := 9) (oi := ⟨_, _, _, _, _, _⟩) (v := ?_) rfl (by kernel_rfl) (by kernel_rfl) (by kernel_rfl) (fun _ _ _ h => h) (Or.inl ⟨by rfl, ?_⟩) (by assumption) ?_
                rotate_left
                · intro w hSw; (try dsimp only at hSw); go_simp; try (with_reducible rfl)
                try go_frame
                refine wpAnyH_ready (rs := [11]) (by kernel_rfl) (by simp) ?_
                refine ready_cons (i := 11) (o := ⟨_, _, _, _, _, _⟩) rfl ?_ AllReadyH.nil
                · intro K hK
                  have TW := twin_store Bwt21.out GLwt20.out KGwt21.out OAwt21.out OBwt21.out (by decide) (by decide)
                  obtain ⟨z0, z1⟩ := bobj_cells KGwt21.out
                  have zf0 := frozen_of KGwt21.out 0
                  have zf1 := frozen_of KGwt21.out 1
                  have HTW := Lib.hid TW
                  clear TW
                  constructor
                  go_simp
                  refine hK.out _ _ (HS3.out _ HTW.out.low) (fun hHeld => ?_)
                  clear hK K
                  refine wpAnyH_done (by kernel_rfl) ?_ _
                  go_wp2
                  go_meet
                  exact ⟨_, _, _, _, _, _, _, rfl, HTW.out⟩
          · intro K hK
            constructor
            go_simp
            have bwt23 := Bwt15.out.alloc Bwt15.out.size (bobj 25 none 0 0 none 0 0)
            refine hK.out _ _ (HS3.out _ bwt23) (fun hHeld => ?_)
            have Bwt23 := Lib.hid bwt23
            have OAwt23 := Lib.hid (OwnR.alloc OAwt15.out (bobj 25 none 0 0 none 0 0))
            have RRwt23 := Lib.hid (RowR.later RRwt15.out (below_alloc _ (bobj 25 none 0 0 none 0 0)))
            have KGwt23 := Lib.hid (heap_alloc_at wt15 (bobj 25 none 0 0 none 0 0))
            have GLwt23 : Hid (w3.heap.size ≤ wt15.heap.size) := Lib.hid Bwt15.out.size
            clear hK K hHeld bwt23 Bwt15 OAwt15 RRwt15
            generalize wt15.heap.size = gwt23 at OAwt23 KGwt23 GLwt23 ⊢
            generalize wt15.alloc (bobj 25 none 0 0 none 0 0) = wt23 at OAwt23 KGwt23 GLwt23 RRwt23 Bwt23 ⊢
            refine wpAnyH_ready (rs := [4]) (by kernel_rfl) (by simp) ?_
            refine ready_cons (i := 4) (o := ⟨_, _, _, _, _, _⟩) rfl ?_ AllReadyH.nil
            · intro K hK
              constructor
              go_simp
              have bwt24 := Bwt23.out.alloc Bwt23.out.size (.cells #[] 45)
              refine hK.out _ _ (HS3.out _ bwt24) (fun hHeld => ?_)
              have Bwt24 := Lib.hid bwt24
              have OAwt24 := Lib.hid (OwnR.alloc OAwt23.out (.cells #[] 45))
              have KGwt24 := Lib.hid (kb_alloc KGwt23.out (.cells #[] 45))
              have RRwt24 := Lib.hid (RowR.later RRwt23.out (below_alloc _ (.cells #[] 45)))
              have OBwt24 := Lib.hid (OwnR.empty (R := prec) wt23 45 (base := w3.heap.size) Bwt23.out.size)
              clear hK K hHeld bwt24 Bwt23 OAwt23 KGwt23 RRwt23
              generalize wt23.heap.size = gwt24 at OAwt24 OBwt24 KGwt24 GLwt23 ⊢
              generalize wt23.alloc (.cells #[] 45) = wt24 at OAwt24 OBwt24 KGwt24 GLwt23 RRwt24 Bwt24 ⊢
              refine wpAnyH_ready (rs := [8]) (by kernel_rfl) (by simp) ?_
              refine ready_cons (i := 8) (o := ⟨_, _, _, _, _, _⟩) rfl ?_ AllReadyH.nil
              · intro K hK
                refine Stepping.mk (appS_step tMR (base := w3.heap.size) rfl (.tmp 24) (.tmp 27) rfl rfl rfl OBwt24.out RRwt24.out LB3.out Bwt24.out.size ?_)
                intro ywt25 wt25 own gr _
                have bwt25 := grown_base Bwt24.out Bwt24.out.size gr OBwt24.out
                have OAwt25 := Lib.hid (OwnR.other OAwt24.out gr OBwt24.out (by decide))
                have KGwt25 := Lib.hid (kept_other KGwt24.out gr OBwt24.out (by decide))
                obtain ⟨Nwt25, nwt25, cwt25, hv, _, _, _, _⟩ := own.row'
                subst hv
                have OBwt25 := Lib.hid own
                have Bwt25 := Lib.hid bwt25
                refine hK.out _ _ (HS3.out _ bwt25) (fun hHeld => ?_)
                clear hK K own gr bwt25 Bwt24 OAwt24 KGwt24 OBwt24 RRwt24
                try go_frame
                refine wpAnyH_take (i := 9) (oi := ⟨_, _, _, _, _, _⟩) (v := ?_) rfl (by kernel_rfl) (by kernel_rfl) (by kernel_rfl) (fun _ _ _ h => h) (Or.inl ⟨by rfl, ?_⟩) (by assumption) ?_
                rotate_left
                · intro w hSw; (try dsimp only at hSw); go_simp; try (with_reducible rfl)
                try go_frame
                refine wpAnyH_ready (rs := [11]) (by kernel_rfl) (by simp) ?_
                refine ready_cons (i := 11) (o := ⟨_, _, _, _, _, _⟩) rfl ?_ AllReadyH.nil
                · intro K hK
                  have TW := twin_store Bwt25.out GLwt23.out KGwt25.out OAwt25.out OBwt25.out (by decide) (by decide)
                  obtain ⟨z0, z1⟩ := bobj_cells KGwt25.out
                  have zf0 := frozen_of KGwt25.out 0
                  have zf1 := frozen_of KGwt25.out 1
                  have HTW := Lib.hid TW
                  clear TW
                  constructor
                  go_simp
                  refine hK.out _ _ (HS3.out _ HTW.out.low) (fun hHeld => ?_)
                  clear hK K
                  refine wpAnyH_done (by kernel_rfl) ?_ _
                  go_wp2
                  go_meet
                  exact ⟨_, _, _, _, _, _, _, rfl, HTW.out⟩
        · intro K hK
          constructor
          go_simp
          have bwt27 := Bwt2.out.alloc Bwt2.out.size (bobj 25 none 0 0 none 0 0)
          refine hK.out _ _ (HS3.out _ bwt27) (fun hHeld => ?_)
          have Bwt27 := Lib.hid bwt27
          have OAwt27 := Lib.hid (OwnR.alloc OAwt2.out (bobj 25 none 0 0 none 0 0))
          have KGwt27 := Lib.hid (heap_alloc_at wt2 (bobj 25 none 0 0 none 0 0))
          have GLwt27 : Hid (w3.heap.size ≤ wt2.heap.size) := Lib.hid Bwt2.out.size
          clear hK K hHeld bwt27 Bwt2 OAwt2
          generalize wt2.heap.size = gwt27 at OAwt27 KGwt27 GLwt27 ⊢
          generalize wt2.alloc (bobj 25 none 0 0 none 0 0) = wt27 at OAwt27 KGwt27 GLwt27 Bwt27 ⊢
          refine wpAnyH_ready (rs := [4, 6]) (by kernel_rfl) (by simp) ?_
          refine ready_cons (i := 4) (o := ⟨_, _, _, _, _, _⟩) rfl ?_ (ready_cons (i := 6) (o := ⟨_, _, _, _, _, _⟩) rfl ?_ AllReadyH.nil)
          · intro K hK
            constructor
            go_simp
            have bwt28 := Bwt27.out.alloc Bwt27.out.size (.cells #[] 45)
            refine hK.out _ _ (HS3.out _ bwt28) (fun hHeld => ?_)
            have Bwt28 := Lib.hid bwt28
            have OAwt28 := Lib.hid (OwnR.alloc OAwt27.out (.cells #[] 45))
            have KGwt28 := Lib.hid (kb_alloc KGwt27.out (.cells #[] 45))
            have OBwt28 := Lib.hid (OwnR.empty (R := prec) wt27 45 (base := w3.heap.size) Bwt27.out.size)
            clear hK K hHeld bwt28 Bwt27 OAwt27 KGwt27
            generalize wt27.heap.size = gwt28 at OAwt28 OBwt28 KGwt28 GLwt27 ⊢
            generalize wt27.alloc (.cells #[] 45) = wt28 at OAwt28 OBwt28 KGwt28 GLwt27 Bwt28 ⊢
            refine wpAnyH_ready (rs := [6]) (by kernel_rfl) (by simp) ?_
            refine ready_cons (i := 6) (o := ⟨_, _, _, _, _, _⟩) rfl ?_ AllReadyH.nil
            · intro K hK
              refine call_step (f := 20) (args := #[batV A n c M m d]) rfl (by kernel_rfl) ?_
              refine (real13_any A n c M m d _ _ wt28 (BT.out.below Bwt28.out) hm1).mono ?_; rintro r wt29 ⟨Mrwt29, drwt29, rfl, hbr, hl⟩; have hr := hbr.mr; clear hbr
              have bwt29 := Bwt28.out.trans (hl.mono Bwt28.out.size)
              have OAwt29 := Lib.hid (OwnR.below OAwt28.out hl)
              have OBwt29 := Lib.hid (OwnR.below OBwt28.out hl)
              have KGwt29 := Lib.hid (kb_below KGwt28.out hl)
              have RRwt29 := Lib.hid hr
              have Bwt29 := Lib.hid bwt29
              refine ⟨_, rfl, ?_⟩
              refine hK.out _ _ (HS3.out _ bwt29) (fun hHeld => ?_)
              clear hK K hl hr bwt29 Bwt28 OAwt28 OBwt28 KGwt28
              try go_frame
              refine wpAnyH_take (i := 7) (oi := ⟨_, _, _, _, _, _⟩) (v := ?_) rfl (by kernel_rfl) (by kernel_rfl) (by kernel_rfl) (fun _ _ _ h => h) (Or.inl ⟨by rfl, ?_⟩) (by assumption) ?_
              rotate_left
              · intro w hSw; (try dsimp only at hSw); go_simp; try (with_reducible rfl)
              try go_frame
              refine wpAnyH_ready (rs := [8]) (by kernel_rfl) (by simp) ?_
              refine ready_cons (i := 8) (o := ⟨_, _, _, _, _, _⟩) rfl ?_ AllReadyH.nil
              · intro K hK
                refine Stepping.mk (appS_step tMR (base := w3.heap.size) rfl (.tmp 24) (.tmp 27) rfl rfl rfl OBwt29.out RRwt29.out LB3.out Bwt29.out.size ?_)
                intro ywt30 wt30 own gr _
                have bwt30 := grown_base Bwt29.out Bwt29.out.size gr OBwt29.out
                have OAwt30 := Lib.hid (OwnR.other OAwt29.out gr OBwt29.out (by decide))
                have KGwt30 := Lib.hid (kept_other KGwt29.out gr OBwt29.out (by decide))
                obtain ⟨Nwt30, nwt30, cwt30, hv, _, _, _, _⟩ := own.row'
                subst hv
                have OBwt30 := Lib.hid own
                have Bwt30 := Lib.hid bwt30
                refine hK.out _ _ (HS3.out _ bwt30) (fun hHeld => ?_)
                clear hK K own gr bwt30 Bwt29 OAwt29 KGwt29 OBwt29 RRwt29
                try go_frame
                refine wpAnyH_take (i := 9) (oi := ⟨_, _, _, _, _, _⟩) (v := ?_) rfl (by kernel_rfl) (by kernel_rfl) (by kernel_rfl) (fun _ _ _ h => h) (Or.inl ⟨by rfl, ?_⟩) (by assumption) ?_
                rotate_left
                · intro w hSw; (try dsimp only at hSw); go_simp; try (with_reducible rfl)
                try go_frame
                refine wpAnyH_ready (rs := [11]) (by kernel_rfl) (by simp) ?_
                refine ready_cons (i := 11) (o := ⟨_, _, _, _, _, _⟩) rfl ?_ AllReadyH.nil
                · intro K hK
                  have TW := twin_store Bwt30.out GLwt27.out KGwt30.out OAwt30.out OBwt30.out (by decide) (by decide)
                  obtain ⟨z0, z1⟩ := bobj_cells KGwt30.out
                  have zf0 := frozen_of KGwt30.out 0
                  have zf1 := frozen_of KGwt30.out 1
                  have HTW := Lib.hid TW
                  clear TW
                  constructor
                  go_simp
                  refine hK.out _ _ (HS3.out _ HTW.out.low) (fun hHeld => ?_)
                  clear hK K
                  refine wpAnyH_done (by kernel_rfl) ?_ _
                  go_wp2
                  go_meet
                  exact ⟨_, _, _, _, _, _, _, rfl, HTW.out⟩
          · intro K hK
            refine call_step (f := 20) (args := #[batV A n c M m d]) rfl (by kernel_rfl) ?_
            refine (real13_any A n c M m d _ _ wt27 (BT.out.below Bwt27.out) hm1).mono ?_; rintro r wt32 ⟨Mrwt32, drwt32, rfl, hbr, hl⟩; have hr := hbr.mr; clear hbr
            have bwt32 := Bwt27.out.trans (hl.mono Bwt27.out.size)
            have OAwt32 := Lib.hid (OwnR.below OAwt27.out hl)
            have KGwt32 := Lib.hid (kb_below KGwt27.out hl)
            have RRwt32 := Lib.hid hr
            have Bwt32 := Lib.hid bwt32
            refine ⟨_, rfl, ?_⟩
            refine hK.out _ _ (HS3.out _ bwt32) (fun hHeld => ?_)
            clear hK K hl hr bwt32 Bwt27 OAwt27 KGwt27
            try go_frame
            refine wpAnyH_take (i := 7) (oi := ⟨_, _, _, _, _, _⟩) (v := ?_) rfl (by kernel_rfl) (by kernel_rfl) (by kernel_rfl) (fun _ _ _ h => h) (Or.inl ⟨by rfl, ?_⟩) (by assumption) ?_
            rotate_left
            · intro w hSw; (try dsimp only at hSw); go_simp; try (with_reducible rfl)
            try go_frame
            refine wpAnyH_ready (rs := [4]) (by kernel_rfl) (by simp) ?_
            refine ready_cons (i := 4) (o := ⟨_, _, _, _, _, _⟩) rfl ?_ AllReadyH.nil
            · intro K hK
              constructor
              go_simp
              have bwt33 := Bwt32.out.alloc Bwt32.out.size (.cells #[] 45)
              refine hK.out _ _ (HS3.out _ bwt33) (fun hHeld => ?_)
              have Bwt33 := Lib.hid bwt33
              have OAwt33 := Lib.hid (OwnR.alloc OAwt32.out (.cells #[] 45))
              have KGwt33 := Lib.hid (kb_alloc KGwt32.out (.cells #[] 45))
              have RRwt33 := Lib.hid (RowR.later RRwt32.out (below_alloc _ (.cells #[] 45)))
              have OBwt33 := Lib.hid (OwnR.empty (R := prec) wt32 45 (base := w3.heap.size) Bwt32.out.size)
              clear hK K hHeld bwt33 Bwt32 OAwt32 KGwt32 RRwt32
              generalize wt32.heap.size = gwt33 at OAwt33 OBwt33 KGwt33 GLwt27 ⊢
              generalize wt32.alloc (.cells #[] 45) = wt33 at OAwt33 OBwt33 KGwt33 GLwt27 RRwt33 Bwt33 ⊢
              refine wpAnyH_ready (rs := [8]) (by kernel_rfl) (by simp) ?_
              refine ready_cons (i := 8) (o := ⟨_, _, _, _, _, _⟩) rfl ?_ AllReadyH.nil
              · intro K hK
                refine Stepping.mk (appS_step tMR (base := w3.heap.size) rfl (.tmp 24) (.tmp 27) rfl rfl rfl OBwt33.out RRwt33.out LB3.out Bwt33.out.size ?_)
                intro ywt34 wt34 own gr _
                have bwt34 := grown_base Bwt33.out Bwt33.out.size gr OBwt33.out
                have OAwt34 := Lib.hid (OwnR.other OAwt33.out gr OBwt33.out (by decide))
                have KGwt34 := Lib.hid (kept_other KGwt33.out gr OBwt33.out (by decide))
                obtain ⟨Nwt34, nwt34, cwt34, hv, _, _, _, _⟩ := own.row'
                subst hv
                have OBwt34 := Lib.hid own
                have Bwt34 := Lib.hid bwt34
                refine hK.out _ _ (HS3.out _ bwt34) (fun hHeld => ?_)
                clear hK K own gr bwt34 Bwt33 OAwt33 KGwt33 OBwt33 RRwt33
                try go_frame
                refine wpAnyH_take (i := 9) (oi := ⟨_, _, _, _, _, _⟩) (v := ?_) rfl (by kernel_rfl) (by kernel_rfl) (by kernel_rfl) (fun _ _ _ h => h) (Or.inl ⟨by rfl, ?_⟩) (by assumption) ?_
                rotate_left
                · intro w hSw; (try dsimp only at hSw); go_simp; try (with_reducible rfl)
                try go_frame
                refine wpAnyH_ready (rs := [11]) (by kernel_rfl) (by simp) ?_
                refine ready_cons (i := 11) (o := ⟨_, _, _, _, _, _⟩) rfl ?_ AllReadyH.nil
                · intro K hK
                  have TW := twin_store Bwt34.out GLwt27.out KGwt34.out OAwt34.out OBwt34.out (by decide) (by decide)
                  obtain ⟨z0, z1⟩ := bobj_cells KGwt34.out
                  have zf0 := frozen_of KGwt34.out 0
                  have zf1 := frozen_of KGwt34.out 1
                  have HTW := Lib.hid TW
                  clear TW
                  constructor
                  go_simp
                  refine hK.out _ _ (HS3.out _ HTW.out.low) (fun hHeld => ?_)
                  clear hK K
                  refine wpAnyH_done (by kernel_rfl) ?_ _
                  go_wp2
                  go_meet
                  exact ⟨_, _, _, _, _, _, _, rfl, HTW.out⟩
      · intro K hK
        constructor
        go_simp
        have bwt36 := Bwt1.out.alloc Bwt1.out.size (.cells #[] 45)
        refine hK.out _ _ (HS3.out _ bwt36) (fun hHeld => ?_)
        have Bwt36 := Lib.hid bwt36
        have OAwt36 := Lib.hid (OwnR.alloc OAwt1.out (.cells #[] 45))
        have OBwt36 := Lib.hid (OwnR.empty (R := prec) wt1 45 (base := w3.heap.size) Bwt1.out.size)
        clear hK K hHeld bwt36 Bwt1 OAwt1
        generalize wt1.heap.size = gwt36 at OAwt36 OBwt36 ⊢
        generalize wt1.alloc (.cells #[] 45) = wt36 at OAwt36 OBwt36 Bwt36 ⊢
        refine wpAnyH_ready (rs := [3, 10]) (by kernel_rfl) (by simp) ?_
        refine ready_cons (i := 3) (o := ⟨_, _, _, _, _, _⟩) rfl ?_ (ready_cons (i := 10) (o := ⟨_, _, _, _, _, _⟩) rfl ?_ AllReadyH.nil)
        · intro K hK
          refine Stepping.mk (appS_step tI (base := w3.heap.size) rfl (.tmp 20) (.tmp 22) rfl rfl rfl OAwt36.out (BT.out.below Bwt36.out).ar LA3.out Bwt36.out.size ?_)
          intro ywt37 wt37 own gr _
          have bwt37 := grown_base Bwt36.out Bwt36.out.size gr OAwt36.out
          have OBwt37 := Lib.hid (OwnR.other OBwt36.out gr OAwt36.out (by decide))
          obtain ⟨Nwt37, nwt37, cwt37, hv, _, _, _, _⟩ := own.row'
          subst hv
          have OAwt37 := Lib.hid own
          have Bwt37 := Lib.hid bwt37
          refine hK.out _ _ (HS3.out _ bwt37) (fun hHeld => ?_)
          clear hK K own gr bwt37 Bwt36 OBwt36 OAwt36
          try go_frame
          refine wpAnyH_ready (rs := [6, 10]) (by kernel_rfl) (by simp) ?_
          refine ready_cons (i := 6) (o := ⟨_, _, _, _, _, _⟩) rfl ?_ (ready_cons (i := 10) (o := ⟨_, _, _, _, _, _⟩) rfl ?_ AllReadyH.nil)
          · intro K hK
            refine call_step (f := 20) (args := #[batV A n c M m d]) rfl (by kernel_rfl) ?_
            refine (real13_any A n c M m d _ _ wt37 (BT.out.below Bwt37.out) hm1).mono ?_; rintro r wt38 ⟨Mrwt38, drwt38, rfl, hbr, hl⟩; have hr := hbr.mr; clear hbr
            have bwt38 := Bwt37.out.trans (hl.mono Bwt37.out.size)
            have OAwt38 := Lib.hid (OwnR.below OAwt37.out hl)
            have OBwt38 := Lib.hid (OwnR.below OBwt37.out hl)
            have RRwt38 := Lib.hid hr
            have Bwt38 := Lib.hid bwt38
            refine ⟨_, rfl, ?_⟩
            refine hK.out _ _ (HS3.out _ bwt38) (fun hHeld => ?_)
            clear hK K hl hr bwt38 Bwt37 OAwt37 OBwt37
            try go_frame
            refine wpAnyH_take (i := 7) (oi := ⟨_, _, _, _, _, _⟩) (v := ?_) rfl (by kernel_rfl) (by kernel_rfl) (by kernel_rfl) (fun _ _ _ h => h) (Or.inl ⟨by rfl, ?_⟩) (by assumption) ?_
            rotate_left
            · intro w hSw; (try dsimp only at hSw); go_simp; try (with_reducible rfl)
            try go_frame
            refine wpAnyH_ready (rs := [8, 10]) (by kernel_rfl) (by simp) ?_
            refine ready_cons (i := 8) (o := ⟨_, _, _, _, _, _⟩) rfl ?_ (ready_cons (i := 10) (o := ⟨_, _, _, _, _, _⟩) rfl ?_ AllReadyH.nil)
            · intro K hK
              refine Stepping.mk (appS_step tMR (base := w3.heap.size) rfl (.tmp 24) (.tmp 27) rfl rfl rfl OBwt38.out RRwt38.out LB3.out Bwt38.out.size ?_)
              intro ywt39 wt39 own gr _
              have bwt39 := grown_base Bwt38.out Bwt38.out.size gr OBwt38.out
              have OAwt39 := Lib.hid (OwnR.other OAwt38.out gr OBwt38.out (by decide))
              obtain ⟨Nwt39, nwt39, cwt39, hv, _, _, _, _⟩ := own.row'
              subst hv
              have OBwt39 := Lib.hid own
              have Bwt39 := Lib.hid bwt39
              refine hK.out _ _ (HS3.out _ bwt39) (fun hHeld => ?_)
              clear hK K own gr bwt39 Bwt38 OAwt38 OBwt38 RRwt38
              try go_frame
              refine wpAnyH_take (i := 9) (oi := ⟨_, _, _, _, _, _⟩) (v := ?_) rfl (by kernel_rfl) (by kernel_rfl) (by kernel_rfl) (fun _ _ _ h => h) (Or.inl ⟨by rfl, ?_⟩) (by assumption) ?_
              rotate_left
              · intro w hSw; (try dsimp only at hSw); go_simp; try (with_reducible rfl)
              try go_frame
              refine wpAnyH_ready (rs := [10]) (by kernel_rfl) (by simp) ?_
              refine ready_cons (i := 10) (o := ⟨_, _, _, _, _, _⟩) rfl ?_ AllReadyH.nil
              · intro K hK
                constructor
                go_simp
                have bwt40 := Bwt39.out.alloc Bwt39.out.size (bobj 25 none 0 0 none 0 0)
                refine hK.out _ _ (HS3.out _ bwt40) (fun hHeld => ?_)
                have Bwt40 := Lib.hid bwt40
                have OAwt40 := Lib.hid (OwnR.alloc OAwt39.out (bobj 25 none 0 0 none 0 0))
                have OBwt40 := Lib.hid (OwnR.alloc OBwt39.out (bobj 25 none 0 0 none 0 0))
                have KGwt40 := Lib.hid (heap_alloc_at wt39 (bobj 25 none 0 0 none 0 0))
                have GLwt40 : Hid (w3.heap.size ≤ wt39.heap.size) := Lib.hid Bwt39.out.size
                clear hK K hHeld bwt40 Bwt39 OAwt39 OBwt39
                generalize wt39.heap.size = gwt40 at OAwt40 OBwt40 KGwt40 GLwt40 ⊢
                generalize wt39.alloc (bobj 25 none 0 0 none 0 0) = wt40 at OAwt40 OBwt40 KGwt40 GLwt40 Bwt40 ⊢
                refine wpAnyH_ready (rs := [11]) (by kernel_rfl) (by simp) ?_
                refine ready_cons (i := 11) (o := ⟨_, _, _, _, _, _⟩) rfl ?_ AllReadyH.nil
                · intro K hK
                  have TW := twin_store Bwt40.out GLwt40.out KGwt40.out OAwt40.out OBwt40.out (by decide) (by decide)
                  obtain ⟨z0, z1⟩ := bobj_cells KGwt40.out
                  have zf0 := frozen_of KGwt40.out 0
                  have zf1 := frozen_of KGwt40.out 1
                  have HTW := Lib.hid TW
                  clear TW
                  constructor
                  go_simp
                  refine hK.out _ _ (HS3.out _ HTW.out.low) (fun hHeld => ?_)
                  clear hK K
                  refine wpAnyH_done (by kernel_rfl) ?_ _
                  go_wp2
                  go_meet
                  exact ⟨_, _, _, _, _, _, _, rfl, HTW.out⟩
            · intro K hK
              constructor
              go_simp
              have bwt42 := Bwt38.out.alloc Bwt38.out.size (bobj 25 none 0 0 none 0 0)
              refine hK.out _ _ (HS3.out _ bwt42) (fun hHeld => ?_)
              have Bwt42 := Lib.hid bwt42
              have OAwt42 := Lib.hid (OwnR.alloc OAwt38.out (bobj 25 none 0 0 none 0 0))
              have OBwt42 := Lib.hid (OwnR.alloc OBwt38.out (bobj 25 none 0 0 none 0 0))
              have RRwt42 := Lib.hid (RowR.later RRwt38.out (below_alloc _ (bobj 25 none 0 0 none 0 0)))
              have KGwt42 := Lib.hid (heap_alloc_at wt38 (bobj 25 none 0 0 none 0 0))
              have GLwt42 : Hid (w3.heap.size ≤ wt38.heap.size) := Lib.hid Bwt38.out.size
              clear hK K hHeld bwt42 Bwt38 OAwt38 OBwt38 RRwt38
              generalize wt38.heap.size = gwt42 at OAwt42 OBwt42 KGwt42 GLwt42 ⊢
              generalize wt38.alloc (bobj 25 none 0 0 none 0 0) = wt42 at OAwt42 OBwt42 KGwt42 GLwt42 RRwt42 Bwt42 ⊢
              refine wpAnyH_ready (rs := [8]) (by kernel_rfl) (by simp) ?_
              refine ready_cons (i := 8) (o := ⟨_, _, _, _, _, _⟩) rfl ?_ AllReadyH.nil
              · intro K hK
                refine Stepping.mk (appS_step tMR (base := w3.heap.size) rfl (.tmp 24) (.tmp 27) rfl rfl rfl OBwt42.out RRwt42.out LB3.out Bwt42.out.size ?_)
                intro ywt43 wt43 own gr _
                have bwt43 := grown_base Bwt42.out Bwt42.out.size gr OBwt42.out
                have OAwt43 := Lib.hid (OwnR.other OAwt42.out gr OBwt42.out (by decide))
                have KGwt43 := Lib.hid (kept_other KGwt42.out gr OBwt42.out (by decide))
                obtain ⟨Nwt43, nwt43, cwt43, hv, _, _, _, _⟩ := own.row'
                subst hv
                have OBwt43 := Lib.hid own
                have Bwt43 := Lib.hid bwt43
                refine hK.out _ _ (HS3.out _ bwt43) (fun hHeld => ?_)
                clear hK K own gr bwt43 Bwt42 OAwt42 KGwt42 OBwt42 RRwt42
                try go_frame
                refine wpAnyH_take (i := 9) (oi := ⟨_, _, _, _, _, _⟩) (v := ?_) rfl (by kernel_rfl) (by kernel_rfl) (by kernel_rfl) (fun _ _ _ h => h) (Or.inl ⟨by rfl, ?_⟩) (by assumption) ?_
                rotate_left
                · intro w hSw; (try dsimp only at hSw); go_simp; try (with_reducible rfl)
                try go_frame
                refine wpAnyH_ready (rs := [11]) (by kernel_rfl) (by simp) ?_
                refine ready_cons (i := 11) (o := ⟨_, _, _, _, _, _⟩) rfl ?_ AllReadyH.nil
                · intro K hK
                  have TW := twin_store Bwt43.out GLwt42.out KGwt43.out OAwt43.out OBwt43.out (by decide) (by decide)
                  obtain ⟨z0, z1⟩ := bobj_cells KGwt43.out
                  have zf0 := frozen_of KGwt43.out 0
                  have zf1 := frozen_of KGwt43.out 1
                  have HTW := Lib.hid TW
                  clear TW
                  constructor
                  go_simp
                  refine hK.out _ _ (HS3.out _ HTW.out.low) (fun hHeld => ?_)
                  clear hK K
                  refine wpAnyH_done (by kernel_rfl) ?_ _
                  go_wp2
                  go_meet
                  exact ⟨_, _, _, _, _, _, _, rfl, HTW.out⟩
          · intro K hK
            constructor
            go_simp
            have bwt45 := Bwt37.out.alloc Bwt37.out.size (bobj 25 none 0 0 none 0 0)
            refine hK.out _ _ (HS3.out _ bwt45) (fun hHeld => ?_)
            have Bwt45 := Lib.hid bwt45
            have OAwt45 := Lib.hid (OwnR.alloc OAwt37.out (bobj 25 none 0 0 none 0 0))
            have OBwt45 := Lib.hid (OwnR.alloc OBwt37.out (bobj 25 none 0 0 none 0 0))
            have KGwt45 := Lib.hid (heap_alloc_at wt37 (bobj 25 none 0 0 none 0 0))
            have GLwt45 : Hid (w3.heap.size ≤ wt37.heap.size) := Lib.hid Bwt37.out.size
            clear hK K hHeld bwt45 Bwt37 OAwt37 OBwt37
            generalize wt37.heap.size = gwt45 at OAwt45 OBwt45 KGwt45 GLwt45 ⊢
            generalize wt37.alloc (bobj 25 none 0 0 none 0 0) = wt45 at OAwt45 OBwt45 KGwt45 GLwt45 Bwt45 ⊢
            refine wpAnyH_ready (rs := [6]) (by kernel_rfl) (by simp) ?_
            refine ready_cons (i := 6) (o := ⟨_, _, _, _, _, _⟩) rfl ?_ AllReadyH.nil
            · intro K hK
              refine call_step (f := 20) (args := #[batV A n c M m d]) rfl (by kernel_rfl) ?_
              refine (real13_any A n c M m d _ _ wt45 (BT.out.below Bwt45.out) hm1).mono ?_; rintro r wt46 ⟨Mrwt46, drwt46, rfl, hbr, hl⟩; have hr := hbr.mr; clear hbr
              have bwt46 := Bwt45.out.trans (hl.mono Bwt45.out.size)
              have OAwt46 := Lib.hid (OwnR.below OAwt45.out hl)
              have OBwt46 := Lib.hid (OwnR.below OBwt45.out hl)
              have KGwt46 := Lib.hid (kb_below KGwt45.out hl)
              have RRwt46 := Lib.hid hr
              have Bwt46 := Lib.hid bwt46
              refine ⟨_, rfl, ?_⟩
              refine hK.out _ _ (HS3.out _ bwt46) (fun hHeld => ?_)
              clear hK K hl hr bwt46 Bwt45 OAwt45 OBwt45 KGwt45
              try go_frame
              refine wpAnyH_take (i := 7) (oi := ⟨_, _, _, _, _, _⟩) (v := ?_) rfl (by kernel_rfl) (by kernel_rfl) (by kernel_rfl) (fun _ _ _ h => h) (Or.inl ⟨by rfl, ?_⟩) (by assumption) ?_
              rotate_left
              · intro w hSw; (try dsimp only at hSw); go_simp; try (with_reducible rfl)
              try go_frame
              refine wpAnyH_ready (rs := [8]) (by kernel_rfl) (by simp) ?_
              refine ready_cons (i := 8) (o := ⟨_, _, _, _, _, _⟩) rfl ?_ AllReadyH.nil
              · intro K hK
                refine Stepping.mk (appS_step tMR (base := w3.heap.size) rfl (.tmp 24) (.tmp 27) rfl rfl rfl OBwt46.out RRwt46.out LB3.out Bwt46.out.size ?_)
                intro ywt47 wt47 own gr _
                have bwt47 := grown_base Bwt46.out Bwt46.out.size gr OBwt46.out
                have OAwt47 := Lib.hid (OwnR.other OAwt46.out gr OBwt46.out (by decide))
                have KGwt47 := Lib.hid (kept_other KGwt46.out gr OBwt46.out (by decide))
                obtain ⟨Nwt47, nwt47, cwt47, hv, _, _, _, _⟩ := own.row'
                subst hv
                have OBwt47 := Lib.hid own
                have Bwt47 := Lib.hid bwt47
                refine hK.out _ _ (HS3.out _ bwt47) (fun hHeld => ?_)
                clear hK K own gr bwt47 Bwt46 OAwt46 KGwt46 OBwt46 RRwt46
                try go_frame
                refine wpAnyH_take (i := 9) (oi := ⟨_, _, _, _, _, _⟩) (v := ?_) rfl (by kernel_rfl) (by kernel_rfl) (by kernel_rfl) (fun _ _ _ h => h) (Or.inl ⟨by rfl, ?_⟩) (by assumption) ?_
                rotate_left
                · intro w hSw; (try dsimp only at hSw); go_simp; try (with_reducible rfl)
                try go_frame
                refine wpAnyH_ready (rs := [11]) (by kernel_rfl) (by simp) ?_
                refine ready_cons (i := 11) (o := ⟨_, _, _, _, _, _⟩) rfl ?_ AllReadyH.nil
                · intro K hK
                  have TW := twin_store Bwt47.out GLwt45.out KGwt47.out OAwt47.out OBwt47.out (by decide) (by decide)
                  obtain ⟨z0, z1⟩ := bobj_cells KGwt47.out
                  have zf0 := frozen_of KGwt47.out 0
                  have zf1 := frozen_of KGwt47.out 1
                  have HTW := Lib.hid TW
                  clear TW
                  constructor
                  go_simp
                  refine hK.out _ _ (HS3.out _ HTW.out.low) (fun hHeld => ?_)
                  clear hK K
                  refine wpAnyH_done (by kernel_rfl) ?_ _
                  go_wp2
                  go_meet
                  exact ⟨_, _, _, _, _, _, _, rfl, HTW.out⟩
        · intro K hK
          constructor
          go_simp
          have bwt49 := Bwt36.out.alloc Bwt36.out.size (bobj 25 none 0 0 none 0 0)
          refine hK.out _ _ (HS3.out _ bwt49) (fun hHeld => ?_)
          have Bwt49 := Lib.hid bwt49
          have OAwt49 := Lib.hid (OwnR.alloc OAwt36.out (bobj 25 none 0 0 none 0 0))
          have OBwt49 := Lib.hid (OwnR.alloc OBwt36.out (bobj 25 none 0 0 none 0 0))
          have KGwt49 := Lib.hid (heap_alloc_at wt36 (bobj 25 none 0 0 none 0 0))
          have GLwt49 : Hid (w3.heap.size ≤ wt36.heap.size) := Lib.hid Bwt36.out.size
          clear hK K hHeld bwt49 Bwt36 OAwt36 OBwt36
          generalize wt36.heap.size = gwt49 at OAwt49 OBwt49 KGwt49 GLwt49 ⊢
          generalize wt36.alloc (bobj 25 none 0 0 none 0 0) = wt49 at OAwt49 OBwt49 KGwt49 GLwt49 Bwt49 ⊢
          refine wpAnyH_ready (rs := [3]) (by kernel_rfl) (by simp) ?_
          refine ready_cons (i := 3) (o := ⟨_, _, _, _, _, _⟩) rfl ?_ AllReadyH.nil
          · intro K hK
            refine Stepping.mk (appS_step tI (base := w3.heap.size) rfl (.tmp 20) (.tmp 22) rfl rfl rfl OAwt49.out (BT.out.below Bwt49.out).ar LA3.out Bwt49.out.size ?_)
            intro ywt50 wt50 own gr _
            have bwt50 := grown_base Bwt49.out Bwt49.out.size gr OAwt49.out
            have OBwt50 := Lib.hid (OwnR.other OBwt49.out gr OAwt49.out (by decide))
            have KGwt50 := Lib.hid (kept_other KGwt49.out gr OAwt49.out (by decide))
            obtain ⟨Nwt50, nwt50, cwt50, hv, _, _, _, _⟩ := own.row'
            subst hv
            have OAwt50 := Lib.hid own
            have Bwt50 := Lib.hid bwt50
            refine hK.out _ _ (HS3.out _ bwt50) (fun hHeld => ?_)
            clear hK K own gr bwt50 Bwt49 OBwt49 KGwt49 OAwt49
            try go_frame
            refine wpAnyH_ready (rs := [6]) (by kernel_rfl) (by simp) ?_
            refine ready_cons (i := 6) (o := ⟨_, _, _, _, _, _⟩) rfl ?_ AllReadyH.nil
            · intro K hK
              refine call_step (f := 20) (args := #[batV A n c M m d]) rfl (by kernel_rfl) ?_
              refine (real13_any A n c M m d _ _ wt50 (BT.out.below Bwt50.out) hm1).mono ?_; rintro r wt51 ⟨Mrwt51, drwt51, rfl, hbr, hl⟩; have hr := hbr.mr; clear hbr
              have bwt51 := Bwt50.out.trans (hl.mono Bwt50.out.size)
              have OAwt51 := Lib.hid (OwnR.below OAwt50.out hl)
              have OBwt51 := Lib.hid (OwnR.below OBwt50.out hl)
              have KGwt51 := Lib.hid (kb_below KGwt50.out hl)
              have RRwt51 := Lib.hid hr
              have Bwt51 := Lib.hid bwt51
              refine ⟨_, rfl, ?_⟩
              refine hK.out _ _ (HS3.out _ bwt51) (fun hHeld => ?_)
              clear hK K hl hr bwt51 Bwt50 OAwt50 OBwt50 KGwt50
              try go_frame
              refine wpAnyH_take (i := 7) (oi := ⟨_, _, _, _, _, _⟩) (v := ?_) rfl (by kernel_rfl) (by kernel_rfl) (by kernel_rfl) (fun _ _ _ h => h) (Or.inl ⟨by rfl, ?_⟩) (by assumption) ?_
              rotate_left
              · intro w hSw; (try dsimp only at hSw); go_simp; try (with_reducible rfl)
              try go_frame
              refine wpAnyH_ready (rs := [8]) (by kernel_rfl) (by simp) ?_
              refine ready_cons (i := 8) (o := ⟨_, _, _, _, _, _⟩) rfl ?_ AllReadyH.nil
              · intro K hK
                refine Stepping.mk (appS_step tMR (base := w3.heap.size) rfl (.tmp 24) (.tmp 27) rfl rfl rfl OBwt51.out RRwt51.out LB3.out Bwt51.out.size ?_)
                intro ywt52 wt52 own gr _
                have bwt52 := grown_base Bwt51.out Bwt51.out.size gr OBwt51.out
                have OAwt52 := Lib.hid (OwnR.other OAwt51.out gr OBwt51.out (by decide))
                have KGwt52 := Lib.hid (kept_other KGwt51.out gr OBwt51.out (by decide))
                obtain ⟨Nwt52, nwt52, cwt52, hv, _, _, _, _⟩ := own.row'
                subst hv
                have OBwt52 := Lib.hid own
                have Bwt52 := Lib.hid bwt52
                refine hK.out _ _ (HS3.out _ bwt52) (fun hHeld => ?_)
                clear hK K own gr bwt52 Bwt51 OAwt51 KGwt51 OBwt51 RRwt51
                try go_frame
                refine wpAnyH_take (i := 9) (oi := ⟨_, _, _, _, _, _⟩) (v := ?_) rfl (by kernel_rfl) (by kernel_rfl) (by kernel_rfl) (fun _ _ _ h => h) (Or.inl ⟨by rfl, ?_⟩) (by assumption) ?_
                rotate_left
                · intro w hSw; (try dsimp only at hSw); go_simp; try (with_reducible rfl)
                try go_frame
                refine wpAnyH_ready (rs := [11]) (by kernel_rfl) (by simp) ?_
                refine ready_cons (i := 11) (o := ⟨_, _, _, _, _, _⟩) rfl ?_ AllReadyH.nil
                · intro K hK
                  have TW := twin_store Bwt52.out GLwt49.out KGwt52.out OAwt52.out OBwt52.out (by decide) (by decide)
                  obtain ⟨z0, z1⟩ := bobj_cells KGwt52.out
                  have zf0 := frozen_of KGwt52.out 0
                  have zf1 := frozen_of KGwt52.out 1
                  have HTW := Lib.hid TW
                  clear TW
                  constructor
                  go_simp
                  refine hK.out _ _ (HS3.out _ HTW.out.low) (fun hHeld => ?_)
                  clear hK K
                  refine wpAnyH_done (by kernel_rfl) ?_ _
                  go_wp2
                  go_meet
                  exact ⟨_, _, _, _, _, _, _, rfl, HTW.out⟩
      · intro K hK
        constructor
        go_simp
        have bwt54 := Bwt1.out.alloc Bwt1.out.size (bobj 25 none 0 0 none 0 0)
        refine hK.out _ _ (HS3.out _ bwt54) (fun hHeld => ?_)
        have Bwt54 := Lib.hid bwt54
        have OAwt54 := Lib.hid (OwnR.alloc OAwt1.out (bobj 25 none 0 0 none 0 0))
        have KGwt54 := Lib.hid (heap_alloc_at wt1 (bobj 25 none 0 0 none 0 0))
        have GLwt54 : Hid (w3.heap.size ≤ wt1.heap.size) := Lib.hid Bwt1.out.size
        clear hK K hHeld bwt54 Bwt1 OAwt1
        generalize wt1.heap.size = gwt54 at OAwt54 KGwt54 GLwt54 ⊢
        generalize wt1.alloc (bobj 25 none 0 0 none 0 0) = wt54 at OAwt54 KGwt54 GLwt54 Bwt54 ⊢
        refine wpAnyH_ready (rs := [3, 4]) (by kernel_rfl) (by simp) ?_
        refine ready_cons (i := 3) (o := ⟨_, _, _, _, _, _⟩) rfl ?_ (ready_cons (i := 4) (o := ⟨_, _, _, _, _, _⟩) rfl ?_ AllReadyH.nil)
        · intro K hK
          refine Stepping.mk (appS_step tI (base := w3.heap.size) rfl (.tmp 20) (.tmp 22) rfl rfl rfl OAwt54.out (BT.out.below Bwt54.out).ar LA3.out Bwt54.out.size ?_)
          intro ywt55 wt55 own gr _
          have bwt55 := grown_base Bwt54.out Bwt54.out.size gr OAwt54.out
          have KGwt55 := Lib.hid (kept_other KGwt54.out gr OAwt54.out (by decide))
          obtain ⟨Nwt55, nwt55, cwt55, hv, _, _, _, _⟩ := own.row'
          subst hv
          have OAwt55 := Lib.hid own
          have Bwt55 := Lib.hid bwt55
          refine hK.out _ _ (HS3.out _ bwt55) (fun hHeld => ?_)
          clear hK K own gr bwt55 Bwt54 KGwt54 OAwt54
          try go_frame
          refine wpAnyH_ready (rs := [4, 6]) (by kernel_rfl) (by simp) ?_
          refine ready_cons (i := 4) (o := ⟨_, _, _, _, _, _⟩) rfl ?_ (ready_cons (i := 6) (o := ⟨_, _, _, _, _, _⟩) rfl ?_ AllReadyH.nil)
          · intro K hK
            constructor
            go_simp
            have bwt56 := Bwt55.out.alloc Bwt55.out.size (.cells #[] 45)
            refine hK.out _ _ (HS3.out _ bwt56) (fun hHeld => ?_)
            have Bwt56 := Lib.hid bwt56
            have OAwt56 := Lib.hid (OwnR.alloc OAwt55.out (.cells #[] 45))
            have KGwt56 := Lib.hid (kb_alloc KGwt55.out (.cells #[] 45))
            have OBwt56 := Lib.hid (OwnR.empty (R := prec) wt55 45 (base := w3.heap.size) Bwt55.out.size)
            clear hK K hHeld bwt56 Bwt55 OAwt55 KGwt55
            generalize wt55.heap.size = gwt56 at OAwt56 OBwt56 KGwt56 GLwt54 ⊢
            generalize wt55.alloc (.cells #[] 45) = wt56 at OAwt56 OBwt56 KGwt56 GLwt54 Bwt56 ⊢
            refine wpAnyH_ready (rs := [6]) (by kernel_rfl) (by simp) ?_
            refine ready_cons (i := 6) (o := ⟨_, _, _, _, _, _⟩) rfl ?_ AllReadyH.nil
            · intro K hK
              refine call_step (f := 20) (args := #[batV A n c M m d]) rfl (by kernel_rfl) ?_
              refine (real13_any A n c M m d _ _ wt56 (BT.out.below Bwt56.out) hm1).mono ?_; rintro r wt57 ⟨Mrwt57, drwt57, rfl, hbr, hl⟩; have hr := hbr.mr; clear hbr
              have bwt57 := Bwt56.out.trans (hl.mono Bwt56.out.size)
              have OAwt57 := Lib.hid (OwnR.below OAwt56.out hl)
              have OBwt57 := Lib.hid (OwnR.below OBwt56.out hl)
              have KGwt57 := Lib.hid (kb_below KGwt56.out hl)
              have RRwt57 := Lib.hid hr
              have Bwt57 := Lib.hid bwt57
              refine ⟨_, rfl, ?_⟩
              refine hK.out _ _ (HS3.out _ bwt57) (fun hHeld => ?_)
              clear hK K hl hr bwt57 Bwt56 OAwt56 OBwt56 KGwt56
              try go_frame
              refine wpAnyH_take (i := 7) (oi := ⟨_, _, _, _, _, _⟩) (v := ?_) rfl (by kernel_rfl) (by kernel_rfl) (by kernel_rfl) (fun _ _ _ h => h) (Or.inl ⟨by rfl, ?_⟩) (by assumption) ?_
              rotate_left
              · intro w hSw; (try dsimp only at hSw); go_simp; try (with_reducible rfl)
              try go_frame
              refine wpAnyH_ready (rs := [8]) (by kernel_rfl) (by simp) ?_
              refine ready_cons (i := 8) (o := ⟨_, _, _, _, _, _⟩) rfl ?_ AllReadyH.nil
              · intro K hK
                refine Stepping.mk (appS_step tMR (base := w3.heap.size) rfl (.tmp 24) (.tmp 27) rfl rfl rfl OBwt57.out RRwt57.out LB3.out Bwt57.out.size ?_)
                intro ywt58 wt58 own gr _
                have bwt58 := grown_base Bwt57.out Bwt57.out.size gr OBwt57.out
                have OAwt58 := Lib.hid (OwnR.other OAwt57.out gr OBwt57.out (by decide))
                have KGwt58 := Lib.hid (kept_other KGwt57.out gr OBwt57.out (by decide))
                obtain ⟨Nwt58, nwt58, cwt58, hv, _, _, _, _⟩ := own.row'
                subst hv
                have OBwt58 := Lib.hid own
                have Bwt58 := Lib.hid bwt58
                refine hK.out _ _ (HS3.out _ bwt58) (fun hHeld => ?_)
                clear hK K own gr bwt58 Bwt57 OAwt57 KGwt57 OBwt57 RRwt57
                try go_frame
                refine wpAnyH_take (i := 9) (oi := ⟨_, _, _, _, _, _⟩) (v := ?_) rfl (by kernel_rfl) (by kernel_rfl) (by kernel_rfl) (fun _ _ _ h => h) (Or.inl ⟨by rfl, ?_⟩) (by assumption) ?_
                rotate_left
                · intro w hSw; (try dsimp only at hSw); go_simp; try (with_reducible rfl)
                try go_frame
                refine wpAnyH_ready (rs := [11]) (by kernel_rfl) (by simp) ?_
                refine ready_cons (i := 11) (o := ⟨_, _, _, _, _, _⟩) rfl ?_ AllReadyH.nil
                · intro K hK
                  have TW := twin_store Bwt58.out GLwt54.out KGwt58.out OAwt58.out OBwt58.out (by decide) (by decide)
                  obtain ⟨z0, z1⟩ := bobj_cells KGwt58.out
                  have zf0 := frozen_of KGwt58.out 0
                  have zf1 := frozen_of KGwt58.out 1
                  have HTW := Lib.hid TW
                  clear TW
                  constructor
                  go_simp
                  refine hK.out _ _ (HS3.out _ HTW.out.low) (fun hHeld => ?_)
                  clear hK K
                  refine wpAnyH_done (by kernel_rfl) ?_ _
                  go_wp2
                  go_meet
                  exact ⟨_, _, _, _, _, _, _, rfl, HTW.out⟩
          · intro K hK
            refine call_step (f := 20) (args := #[batV A n c M m d]) rfl (by kernel_rfl) ?_
            refine (real13_any A n c M m d _ _ wt55 (BT.out.below Bwt55.out) hm1).mono ?_; rintro r wt60 ⟨Mrwt60, drwt60, rfl, hbr, hl⟩; have hr := hbr.mr; clear hbr
            have bwt60 := Bwt55.out.trans (hl.mono Bwt55.out.size)
            have OAwt60 := Lib.hid (OwnR.below OAwt55.out hl)
            have KGwt60 := Lib.hid (kb_below KGwt55.out hl)
            have RRwt60 := Lib.hid hr
            have Bwt60 := Lib.hid bwt60
            refine ⟨_, rfl, ?_⟩
            refine hK.out _ _ (HS3.out _ bwt60) (fun hHeld => ?_)
            clear hK K hl hr bwt60 Bwt55 OAwt55 KGwt55
            try go_frame
            refine wpAnyH_take (i := 7) (oi := ⟨_, _, _, _, _, _⟩) (v := ?_) rfl (by kernel_rfl) (by kernel_rfl) (by kernel_rfl) (fun _ _ _ h => h) (Or.inl ⟨by rfl, ?_⟩) (by assumption) ?_
            rotate_left
            · intro w hSw; (try dsimp only at hSw); go_simp; try (with_reducible rfl)
            try go_frame
            refine wpAnyH_ready (rs := [4]) (by kernel_rfl) (by simp) ?_
            refine ready_cons (i := 4) (o := ⟨_, _, _, _, _, _⟩) rfl ?_ AllReadyH.nil
            · intro K hK
              constructor
              go_simp
              have bwt61 := Bwt60.out.alloc Bwt60.out.size (.cells #[] 45)
              refine hK.out _ _ (HS3.out _ bwt61) (fun hHeld => ?_)
              have Bwt61 := Lib.hid bwt61
              have OAwt61 := Lib.hid (OwnR.alloc OAwt60.out (.cells #[] 45))
              have KGwt61 := Lib.hid (kb_alloc KGwt60.out (.cells #[] 45))
              have RRwt61 := Lib.hid (RowR.later RRwt60.out (below_alloc _ (.cells #[] 45)))
              have OBwt61 := Lib.hid (OwnR.empty (R := prec) wt60 45 (base := w3.heap.size) Bwt60.out.size)
              clear hK K hHeld bwt61 Bwt60 OAwt60 KGwt60 RRwt60
              generalize wt60.heap.size = gwt61 at OAwt61 OBwt61 KGwt61 GLwt54 ⊢
              generalize wt60.alloc (.cells #[] 45) = wt61 at OAwt61 OBwt61 KGwt61 GLwt54 RRwt61 Bwt61 ⊢
              refine wpAnyH_ready (rs := [8]) (by kernel_rfl) (by simp) ?_
              refine ready_cons (i := 8) (o := ⟨_, _, _, _, _, _⟩) rfl ?_ AllReadyH.nil
              · intro K hK
                refine Stepping.mk (appS_step tMR (base := w3.heap.size) rfl (.tmp 24) (.tmp 27) rfl rfl rfl OBwt61.out RRwt61.out LB3.out Bwt61.out.size ?_)
                intro ywt62 wt62 own gr _
                have bwt62 := grown_base Bwt61.out Bwt61.out.size gr OBwt61.out
                have OAwt62 := Lib.hid (OwnR.other OAwt61.out gr OBwt61.out (by decide))
                have KGwt62 := Lib.hid (kept_other KGwt61.out gr OBwt61.out (by decide))
                obtain ⟨Nwt62, nwt62, cwt62, hv, _, _, _, _⟩ := own.row'
                subst hv
                have OBwt62 := Lib.hid own
                have Bwt62 := Lib.hid bwt62
                refine hK.out _ _ (HS3.out _ bwt62) (fun hHeld => ?_)
                clear hK K own gr bwt62 Bwt61 OAwt61 KGwt61 OBwt61 RRwt61
                try go_frame
                refine wpAnyH_take (i := 9) (oi := ⟨_, _, _, _, _, _⟩) (v := ?_) rfl (by kernel_rfl) (by kernel_rfl) (by kernel_rfl) (fun _ _ _ h => h) (Or.inl ⟨by rfl, ?_⟩) (by assumption) ?_
                rotate_left
                · intro w hSw; (try dsimp only at hSw); go_simp; try (with_reducible rfl)
                try go_frame
                refine wpAnyH_ready (rs := [11]) (by kernel_rfl) (by simp) ?_
                refine ready_cons (i := 11) (o := ⟨_, _, _, _, _, _⟩) rfl ?_ AllReadyH.nil
                · intro K hK
                  have TW := twin_store Bwt62.out GLwt54.out KGwt62.out OAwt62.out OBwt62.out (by decide) (by decide)
                  obtain ⟨z0, z1⟩ := bobj_cells KGwt62.out
                  have zf0 := frozen_of KGwt62.out 0
                  have zf1 := frozen_of KGwt62.out 1
                  have HTW := Lib.hid TW
                  clear TW
                  constructor
                  go_simp
                  refine hK.out _ _ (HS3.out _ HTW.out.low) (fun hHeld => ?_)
                  clear hK K
                  refine wpAnyH_done (by kernel_rfl) ?_ _
                  go_wp2
                  go_meet
                  exact ⟨_, _, _, _, _, _, _, rfl, HTW.out⟩
        · intro K hK
          constructor
          go_simp
          have bwt64 := Bwt54.out.alloc Bwt54.out.size (.cells #[] 45)
          refine hK.out _ _ (HS3.out _ bwt64) (fun hHeld => ?_)
          have Bwt64 := Lib.hid bwt64
          have OAwt64 := Lib.hid (OwnR.alloc OAwt54.out (.cells #[] 45))
          have KGwt64 := Lib.hid (kb_alloc KGwt54.out (.cells #[] 45))
          have OBwt64 := Lib.hid (OwnR.empty (R := prec) wt54 45 (base := w3.heap.size) Bwt54.out.size)
          clear hK K hHeld bwt64 Bwt54 OAwt54 KGwt54
          generalize wt54.heap.size = gwt64 at OAwt64 OBwt64 KGwt64 GLwt54 ⊢
          generalize wt54.alloc (.cells #[] 45) = wt64 at OAwt64 OBwt64 KGwt64 GLwt54 Bwt64 ⊢
          refine wpAnyH_ready (rs := [3]) (by kernel_rfl) (by simp) ?_
          refine ready_cons (i := 3) (o := ⟨_, _, _, _, _, _⟩) rfl ?_ AllReadyH.nil
          · intro K hK
            refine Stepping.mk (appS_step tI (base := w3.heap.size) rfl (.tmp 20) (.tmp 22) rfl rfl rfl OAwt64.out (BT.out.below Bwt64.out).ar LA3.out Bwt64.out.size ?_)
            intro ywt65 wt65 own gr _
            have bwt65 := grown_base Bwt64.out Bwt64.out.size gr OAwt64.out
            have OBwt65 := Lib.hid (OwnR.other OBwt64.out gr OAwt64.out (by decide))
            have KGwt65 := Lib.hid (kept_other KGwt64.out gr OAwt64.out (by decide))
            obtain ⟨Nwt65, nwt65, cwt65, hv, _, _, _, _⟩ := own.row'
            subst hv
            have OAwt65 := Lib.hid own
            have Bwt65 := Lib.hid bwt65
            refine hK.out _ _ (HS3.out _ bwt65) (fun hHeld => ?_)
            clear hK K own gr bwt65 Bwt64 OBwt64 KGwt64 OAwt64
            try go_frame
            refine wpAnyH_ready (rs := [6]) (by kernel_rfl) (by simp) ?_
            refine ready_cons (i := 6) (o := ⟨_, _, _, _, _, _⟩) rfl ?_ AllReadyH.nil
            · intro K hK
              refine call_step (f := 20) (args := #[batV A n c M m d]) rfl (by kernel_rfl) ?_
              refine (real13_any A n c M m d _ _ wt65 (BT.out.below Bwt65.out) hm1).mono ?_; rintro r wt66 ⟨Mrwt66, drwt66, rfl, hbr, hl⟩; have hr := hbr.mr; clear hbr
              have bwt66 := Bwt65.out.trans (hl.mono Bwt65.out.size)
              have OAwt66 := Lib.hid (OwnR.below OAwt65.out hl)
              have OBwt66 := Lib.hid (OwnR.below OBwt65.out hl)
              have KGwt66 := Lib.hid (kb_below KGwt65.out hl)
              have RRwt66 := Lib.hid hr
              have Bwt66 := Lib.hid bwt66
              refine ⟨_, rfl, ?_⟩
              refine hK.out _ _ (HS3.out _ bwt66) (fun hHeld => ?_)
              clear hK K hl hr bwt66 Bwt65 OAwt65 OBwt65 KGwt65
              try go_frame
              refine wpAnyH_take (i := 7) (oi := ⟨_, _, _, _, _, _⟩) (v := ?_) rfl (by kernel_rfl) (by kernel_rfl) (by kernel_rfl) (fun _ _ _ h => h) (Or.inl ⟨by rfl, ?_⟩) (by assumption) ?_
              rotate_left
              · intro w hSw; (try dsimp only at hSw); go_simp; try (with_reducible rfl)
              try go_frame
              refine wpAnyH_ready (rs := [8]) (by kernel_rfl) (by simp) ?_
              refine ready_cons (i := 8) (o := ⟨_, _, _, _, _, _⟩) rfl ?_ AllReadyH.nil
              · intro K hK
                refine Stepping.mk (appS_step tMR (base := w3.heap.size) rfl (.tmp 24) (.tmp 27) rfl rfl rfl OBwt66.out RRwt66.out LB3.out Bwt66.out.size ?_)
                intro ywt67 wt67 own gr _
                have bwt67 := grown_base Bwt66.out Bwt66.out.size gr OBwt66.out
                have OAwt67 := Lib.hid (OwnR.other OAwt66.out gr OBwt66.out (by decide))
                have KGwt67 := Lib.hid (kept_other KGwt66.out gr OBwt66.out (by decide))
                obtain ⟨Nwt67, nwt67, cwt67, hv, _, _, _, _⟩ := own.row'
                subst hv
                have OBwt67 := Lib.hid own
                have Bwt67 := Lib.hid bwt67
                refine hK.out _ _ (HS3.out _ bwt67) (fun hHeld => ?_)
                clear hK K own gr bwt67 Bwt66 OAwt66 KGwt66 OBwt66 RRwt66
                try go_frame
                refine wpAnyH_take (i := 9) (oi := ⟨_, _, _, _, _, _⟩) (v := ?_) rfl (by kernel_rfl) (by kernel_rfl) (by kernel_rfl) (fun _ _ _ h => h) (Or.inl ⟨by rfl, ?_⟩) (by assumption) ?_
                rotate_left
                · intro w hSw; (try dsimp only at hSw); go_simp; try (with_reducible rfl)
                try go_frame
                refine wpAnyH_ready (rs := [11]) (by kernel_rfl) (by simp) ?_
                refine ready_cons (i := 11) (o := ⟨_, _, _, _, _, _⟩) rfl ?_ AllReadyH.nil
                · intro K hK
                  have TW := twin_store Bwt67.out GLwt54.out KGwt67.out OAwt67.out OBwt67.out (by decide) (by decide)
                  obtain ⟨z0, z1⟩ := bobj_cells KGwt67.out
                  have zf0 := frozen_of KGwt67.out 0
                  have zf1 := frozen_of KGwt67.out 1
                  have HTW := Lib.hid TW
                  clear TW
                  constructor
                  go_simp
                  refine hK.out _ _ (HS3.out _ HTW.out.low) (fun hHeld => ?_)
                  clear hK K
                  refine wpAnyH_done (by kernel_rfl) ?_ _
                  go_wp2
                  go_meet
                  exact ⟨_, _, _, _, _, _, _, rfl, HTW.out⟩
    · intro K hK
      constructor
      go_simp
      have bwt69 := Bwt0.out.alloc Bwt0.out.size (.cells #[] 45)
      refine hK.out _ _ (HS3.out _ bwt69) (fun hHeld => ?_)
      have Bwt69 := Lib.hid bwt69
      have OBwt69 := Lib.hid (OwnR.empty (R := prec) wt0 45 (base := w3.heap.size) Bwt0.out.size)
      clear hK K hHeld bwt69 Bwt0 
      generalize wt0.heap.size = gwt69 at OBwt69 ⊢
      generalize wt0.alloc (.cells #[] 45) = wt69 at OBwt69 Bwt69 ⊢
      refine wpAnyH_ready (rs := [0, 10]) (by kernel_rfl) (by simp) ?_
      refine ready_cons (i := 0) (o := ⟨_, _, _, _, _, _⟩) rfl ?_ (ready_cons (i := 10) (o := ⟨_, _, _, _, _, _⟩) rfl ?_ AllReadyH.nil)
      · intro K hK
        constructor
        go_simp
        have bwt70 := Bwt69.out.alloc Bwt69.out.size (.cells #[] 3)
        refine hK.out _ _ (HS3.out _ bwt70) (fun hHeld => ?_)
        have Bwt70 := Lib.hid bwt70
        have OBwt70 := Lib.hid (OwnR.alloc OBwt69.out (.cells #[] 3))
        have OAwt70 := Lib.hid (OwnR.empty (R := irec) wt69 3 (base := w3.heap.size) Bwt69.out.size)
        clear hK K hHeld bwt70 Bwt69 OBwt69
        generalize wt69.heap.size = gwt70 at OAwt70 OBwt70 ⊢
        generalize wt69.alloc (.cells #[] 3) = wt70 at OAwt70 OBwt70 Bwt70 ⊢
        refine wpAnyH_ready (rs := [3, 10]) (by kernel_rfl) (by simp) ?_
        refine ready_cons (i := 3) (o := ⟨_, _, _, _, _, _⟩) rfl ?_ (ready_cons (i := 10) (o := ⟨_, _, _, _, _, _⟩) rfl ?_ AllReadyH.nil)
        · intro K hK
          refine Stepping.mk (appS_step tI (base := w3.heap.size) rfl (.tmp 20) (.tmp 22) rfl rfl rfl OAwt70.out (BT.out.below Bwt70.out).ar LA3.out Bwt70.out.size ?_)
          intro ywt71 wt71 own gr _
          have bwt71 := grown_base Bwt70.out Bwt70.out.size gr OAwt70.out
          have OBwt71 := Lib.hid (OwnR.other OBwt70.out gr OAwt70.out (by decide))
          obtain ⟨Nwt71, nwt71, cwt71, hv, _, _, _, _⟩ := own.row'
          subst hv
          have OAwt71 := Lib.hid own
          have Bwt71 := Lib.hid bwt71
          refine hK.out _ _ (HS3.out _ bwt71) (fun hHeld => ?_)
          clear hK K own gr bwt71 Bwt70 OBwt70 OAwt70
          try go_frame
          refine wpAnyH_ready (rs := [6, 10]) (by kernel_rfl) (by simp) ?_
          refine ready_cons (i := 6) (o := ⟨_, _, _, _, _, _⟩) rfl ?_ (ready_cons (i := 10) (o := ⟨_, _, _, _, _, _⟩) rfl ?_ AllReadyH.nil)
          · intro K hK
            refine call_step (f := 20) (args := #[batV A n c M m d]) rfl (by kernel_rfl) ?_
            refine (real13_any A n c M m d _ _ wt71 (BT.out.below Bwt71.out) hm1).mono ?_; rintro r wt72 ⟨Mrwt72, drwt72, rfl, hbr, hl⟩; have hr := hbr.mr; clear hbr
            have bwt72 := Bwt71.out.trans (hl.mono Bwt71.out.size)
            have OAwt72 := Lib.hid (OwnR.below OAwt71.out hl)
            have OBwt72 := Lib.hid (OwnR.below OBwt71.out hl)
            have RRwt72 := Lib.hid hr
            have Bwt72 := Lib.hid bwt72
            refine ⟨_, rfl, ?_⟩
            refine hK.out _ _ (HS3.out _ bwt72) (fun hHeld => ?_)
            clear hK K hl hr bwt72 Bwt71 OAwt71 OBwt71
            try go_frame
            refine wpAnyH_take (i := 7) (oi := ⟨_, _, _, _, _, _⟩) (v := ?_) rfl (by kernel_rfl) (by kernel_rfl) (by kernel_rfl) (fun _ _ _ h => h) (Or.inl ⟨by rfl, ?_⟩) (by assumption) ?_
            rotate_left
            · intro w hSw; (try dsimp only at hSw); go_simp; try (with_reducible rfl)
            try go_frame
            refine wpAnyH_ready (rs := [8, 10]) (by kernel_rfl) (by simp) ?_
            refine ready_cons (i := 8) (o := ⟨_, _, _, _, _, _⟩) rfl ?_ (ready_cons (i := 10) (o := ⟨_, _, _, _, _, _⟩) rfl ?_ AllReadyH.nil)
            · intro K hK
              refine Stepping.mk (appS_step tMR (base := w3.heap.size) rfl (.tmp 24) (.tmp 27) rfl rfl rfl OBwt72.out RRwt72.out LB3.out Bwt72.out.size ?_)
              intro ywt73 wt73 own gr _
              have bwt73 := grown_base Bwt72.out Bwt72.out.size gr OBwt72.out
              have OAwt73 := Lib.hid (OwnR.other OAwt72.out gr OBwt72.out (by decide))
              obtain ⟨Nwt73, nwt73, cwt73, hv, _, _, _, _⟩ := own.row'
              subst hv
              have OBwt73 := Lib.hid own
              have Bwt73 := Lib.hid bwt73
              refine hK.out _ _ (HS3.out _ bwt73) (fun hHeld => ?_)
              clear hK K own gr bwt73 Bwt72 OAwt72 OBwt72 RRwt72
              try go_frame
              refine wpAnyH_take (i := 9) (oi := ⟨_, _, _, _, _, _⟩) (v := ?_) rfl (by kernel_rfl) (by kernel_rfl) (by kernel_rfl) (fun _ _ _ h => h) (Or.inl ⟨by rfl, ?_⟩) (by assumption) ?_
              rotate_left
              · intro w hSw; (try dsimp only at hSw); go_simp; try (with_reducible rfl)
              try go_frame
              refine wpAnyH_ready (rs := [10]) (by kernel_rfl) (by simp) ?_
              refine ready_cons (i := 10) (o := ⟨_, _, _, _, _, _⟩) rfl ?_ AllReadyH.nil
              · intro K hK
                constructor
                go_simp
                have bwt74 := Bwt73.out.alloc Bwt73.out.size (bobj 25 none 0 0 none 0 0)
                refine hK.out _ _ (HS3.out _ bwt74) (fun hHeld => ?_)
                have Bwt74 := Lib.hid bwt74
                have OAwt74 := Lib.hid (OwnR.alloc OAwt73.out (bobj 25 none 0 0 none 0 0))
                have OBwt74 := Lib.hid (OwnR.alloc OBwt73.out (bobj 25 none 0 0 none 0 0))
                have KGwt74 := Lib.hid (heap_alloc_at wt73 (bobj 25 none 0 0 none 0 0))
                have GLwt74 : Hid (w3.heap.size ≤ wt73.heap.size) := Lib.hid Bwt73.out.size
                clear hK K hHeld bwt74 Bwt73 OAwt73 OBwt73
                generalize wt73.heap.size = gwt74 at OAwt74 OBwt74 KGwt74 GLwt74 ⊢
                generalize wt73.alloc (bobj 25 none 0 0 none 0 0) = wt74 at OAwt74 OBwt74 KGwt74 GLwt74 Bwt74 ⊢
                refine wpAnyH_ready (rs := [11]) (by kernel_rfl) (by simp) ?_
                refine ready_cons (i := 11) (o := ⟨_, _, _, _, _, _⟩) rfl ?_ AllReadyH.nil
                · intro K hK
                  have TW := twin_store Bwt74.out GLwt74.out KGwt74.out OAwt74.out OBwt74.out (by decide) (by decide)
                  obtain ⟨z0, z1⟩ := bobj_cells KGwt74.out
                  have zf0 := frozen_of KGwt74.out 0
                  have zf1 := frozen_of KGwt74.out 1
                  have HTW := Lib.hid TW
                  clear TW
                  constructor
                  go_simp
                  refine hK.out _ _ (HS3.out _ HTW.out.low) (fun hHeld => ?_)
                  clear hK K
                  refine wpAnyH_done (by kernel_rfl) ?_ _
                  go_wp2
                  go_meet
                  exact ⟨_, _, _, _, _, _, _, rfl, HTW.out⟩
            · intro K hK
              constructor
              go_simp
              have bwt76 := Bwt72.out.alloc Bwt72.out.size (bobj 25 none 0 0 none 0 0)
              refine hK.out _ _ (HS3.out _ bwt76) (fun hHeld => ?_)
              have Bwt76 := Lib.hid bwt76
              have OAwt76 := Lib.hid (OwnR.alloc OAwt72.out (bobj 25 none 0 0 none 0 0))
              have OBwt76 := Lib.hid (OwnR.alloc OBwt72.out (bobj 25 none 0 0 none 0 0))
              have RRwt76 := Lib.hid (RowR.later RRwt72.out (below_alloc _ (bobj 25 none 0 0 none 0 0)))
              have KGwt76 := Lib.hid (heap_alloc_at wt72 (bobj 25 none 0 0 none 0 0))
              have GLwt76 : Hid (w3.heap.size ≤ wt72.heap.size) := Lib.hid Bwt72.out.size
              clear hK K hHeld bwt76 Bwt72 OAwt72 OBwt72 RRwt72
              generalize wt72.heap.size = gwt76 at OAwt76 OBwt76 KGwt76 GLwt76 ⊢
              generalize wt72.alloc (bobj 25 none 0 0 none 0 0) = wt76 at OAwt76 OBwt76 KGwt76 GLwt76 RRwt76 Bwt76 ⊢
              refine wpAnyH_ready (rs := [8]) (by kernel_rfl) (by simp) ?_
              refine ready_cons (i := 8) (o := ⟨_, _, _, _, _, _⟩) rfl ?_ AllReadyH.nil
              · intro K hK
                refine Stepping.mk (appS_step tMR (base := w3.heap.size) rfl (.tmp 24) (.tmp 27) rfl rfl rfl OBwt76.out RRwt76.out LB3.out Bwt76.out.size ?_)
                intro ywt77 wt77 own gr _
                have bwt77 := grown_base Bwt76.out Bwt76.out.size gr OBwt76.out
                have OAwt77 := Lib.hid (OwnR.other OAwt76.out gr OBwt76.out (by decide))
                have KGwt77 := Lib.hid (kept_other KGwt76.out gr OBwt76.out (by decide))
                obtain ⟨Nwt77, nwt77, cwt77, hv, _, _, _, _⟩ := own.row'
                subst hv
                have OBwt77 := Lib.hid own
                have Bwt77 := Lib.hid bwt77
                refine hK.out _ _ (HS3.out _ bwt77) (fun hHeld => ?_)
                clear hK K own gr bwt77 Bwt76 OAwt76 KGwt76 OBwt76 RRwt76
                try go_frame
                refine wpAnyH_take (i := 9) (oi := ⟨_, _, _, _, _, _⟩) (v := ?_) rfl (by kernel_rfl) (by kernel_rfl) (by kernel_rfl) (fun _ _ _ h => h) (Or.inl ⟨by rfl, ?_⟩) (by assumption) ?_
                rotate_left
                · intro w hSw; (try dsimp only at hSw); go_simp; try (with_reducible rfl)
                try go_frame
                refine wpAnyH_ready (rs := [11]) (by kernel_rfl) (by simp) ?_
                refine ready_cons (i := 11) (o := ⟨_, _, _, _, _, _⟩) rfl ?_ AllReadyH.nil
                · intro K hK
                  have TW := twin_store Bwt77.out GLwt76.out KGwt77.out OAwt77.out OBwt77.out (by decide) (by decide)
                  obtain ⟨z0, z1⟩ := bobj_cells KGwt77.out
                  have zf0 := frozen_of KGwt77.out 0
                  have zf1 := frozen_of KGwt77.out 1
                  have HTW := Lib.hid TW
                  clear TW
                  constructor
                  go_simp
                  refine hK.out _ _ (HS3.out _ HTW.out.low) (fun hHeld => ?_)
                  clear hK K
                  refine wpAnyH_done (by kernel_rfl) ?_ _
                  go_wp2
                  go_meet
                  exact ⟨_, _, _, _, _, _, _, rfl, HTW.out⟩
          · intro K hK
            constructor
            go_simp
            have bwt79 := Bwt71.out.alloc Bwt71.out.size (bobj 25 none 0 0 none 0 0)
            refine hK.out _ _ (HS3.out _ bwt79) (fun hHeld => ?_)
            have Bwt79 := Lib.hid bwt79
            have OAwt79 := Lib.hid (OwnR.alloc OAwt71.out (bobj 25 none 0 0 none 0 0))
            have OBwt79 := Lib.hid (OwnR.alloc OBwt71.out (bobj 25 none 0 0 none 0 0))
            have KGwt79 := Lib.hid (heap_alloc_at wt71 (bobj 25 none 0 0 none 0 0))
            have GLwt79 : Hid (w3.heap.size ≤ wt71.heap.size) := Lib.hid Bwt71.out.size
            clear hK K hHeld bwt79 Bwt71 OAwt71 OBwt71
            generalize wt71.heap.size = gwt79 at OAwt79 OBwt79 KGwt79 GLwt79 ⊢
            generalize wt71.alloc (bobj 25 none 0 0 none 0 0) = wt79 at OAwt79 OBwt79 KGwt79 GLwt79 Bwt79 ⊢
            refine wpAnyH_ready (rs := [6]) (by kernel_rfl) (by simp) ?_
            refine ready_cons (i := 6) (o := ⟨_, _, _, _, _, _⟩) rfl ?_ AllReadyH.nil
            · intro K hK
              refine call_step (f := 20) (args := #[batV A n c M m d]) rfl (by kernel_rfl) ?_
              refine (real13_any A n c M m d _ _ wt79 (BT.out.below Bwt79.out) hm1).mono ?_; rintro r wt80 ⟨Mrwt80, drwt80, rfl, hbr, hl⟩; have hr := hbr.mr; clear hbr
              have bwt80 := Bwt79.out.trans (hl.mono Bwt79.out.size)
              have OAwt80 := Lib.hid (OwnR.below OAwt79.out hl)
              have OBwt80 := Lib.hid (OwnR.below OBwt79.out hl)
              have KGwt80 := Lib.hid (kb_below KGwt79.out hl)
              have RRwt80 := Lib.hid hr
              have Bwt80 := Lib.hid bwt80
              refine ⟨_, rfl, ?_⟩
              refine hK.out _ _ (HS3.out _ bwt80) (fun hHeld => ?_)
              clear hK K hl hr bwt80 Bwt79 OAwt79 OBwt79 KGwt79
              try go_frame
              refine wpAnyH_take (i := 7) (oi := ⟨_, _, _, _, _, _⟩) (v := ?_) rfl (by kernel_rfl) (by kernel_rfl) (by kernel_rfl) (fun _ _ _ h => h) (Or.inl ⟨by rfl, ?_⟩) (by assumption) ?_
              rotate_left
              · intro w hSw; (try dsimp only at hSw); go_simp; try (with_reducible rfl)
              try go_frame
              refine wpAnyH_ready (rs := [8]) (by kernel_rfl) (by simp) ?_
              refine ready_cons (i := 8) (o := ⟨_, _, _, _, _, _⟩) rfl ?_ AllReadyH.nil
              · intro K hK
                refine Stepping.mk (appS_step tMR (base := w3.heap.size) rfl (.tmp 24) (.tmp 27) rfl rfl rfl OBwt80.out RRwt80.out LB3.out Bwt80.out.size ?_)
                intro ywt81 wt81 own gr _
                have bwt81 := grown_base Bwt80.out Bwt80.out.size gr OBwt80.out
                have OAwt81 := Lib.hid (OwnR.other OAwt80.out gr OBwt80.out (by decide))
                have KGwt81 := Lib.hid (kept_other KGwt80.out gr OBwt80.out (by decide))
                obtain ⟨Nwt81, nwt81, cwt81, hv, _, _, _, _⟩ := own.row'
                subst hv
                have OBwt81 := Lib.hid own
                have Bwt81 := Lib.hid bwt81
                refine hK.out _ _ (HS3.out _ bwt81) (fun hHeld => ?_)
                clear hK K own gr bwt81 Bwt80 OAwt80 KGwt80 OBwt80 RRwt80
                try go_frame
                refine wpAnyH_take (i := 9) (oi := ⟨_, _, _, _, _, _⟩) (v := ?_) rfl (by kernel_rfl) (by kernel_rfl) (by kernel_rfl) (fun _ _ _ h => h) (Or.inl ⟨by rfl, ?_⟩) (by assumption) ?_
                rotate_left
                · intro w hSw; (try dsimp only at hSw); go_simp; try (with_reducible rfl)
                try go_frame
                refine wpAnyH_ready (rs := [11]) (by kernel_rfl) (by simp) ?_
                refine ready_cons (i := 11) (o := ⟨_, _, _, _, _, _⟩) rfl ?_ AllReadyH.nil
                · intro K hK
                  have TW := twin_store Bwt81.out GLwt79.out KGwt81.out OAwt81.out OBwt81.out (by decide) (by decide)
                  obtain ⟨z0, z1⟩ := bobj_cells KGwt81.out
                  have zf0 := frozen_of KGwt81.out 0
                  have zf1 := frozen_of KGwt81.out 1
                  have HTW := Lib.hid TW
                  clear TW
                  constructor
                  go_simp
                  refine hK.out _ _ (HS3.out _ HTW.out.low) (fun hHeld => ?_)
                  clear hK K
                  refine wpAnyH_done (by kernel_rfl) ?_ _
                  go_wp2
                  go_meet
                  exact ⟨_, _, _, _, _, _, _, rfl, HTW.out⟩
        · intro K hK
          constructor
          go_simp
          have bwt83 := Bwt70.out.alloc Bwt70.out.size (bobj 25 none 0 0 none 0 0)
          refine hK.out _ _ (HS3.out _ bwt83) (fun hHeld => ?_)
          have Bwt83 := Lib.hid bwt83
          have OAwt83 := Lib.hid (OwnR.alloc OAwt70.out (bobj 25 none 0 0 none 0 0))
          have OBwt83 := Lib.hid (OwnR.alloc OBwt70.out (bobj 25 none 0 0 none 0 0))
          have KGwt83 := Lib.hid (heap_alloc_at wt70 (bobj 25 none 0 0 none 0 0))
          have GLwt83 : Hid (w3.heap.size ≤ wt70.heap.size) := Lib.hid Bwt70.out.size
          clear hK K hHeld bwt83 Bwt70 OAwt70 OBwt70
          generalize wt70.heap.size = gwt83 at OAwt83 OBwt83 KGwt83 GLwt83 ⊢
          generalize wt70.alloc (bobj 25 none 0 0 none 0 0) = wt83 at OAwt83 OBwt83 KGwt83 GLwt83 Bwt83 ⊢
          refine wpAnyH_ready (rs := [3]) (by kernel_rfl) (by simp) ?_
          refine ready_cons (i := 3) (o := ⟨_, _, _, _, _, _⟩) rfl ?_ AllReadyH.nil
          · intro K hK
            refine Stepping.mk (appS_step tI (base := w3.heap.size) rfl (.tmp 20) (.tmp 22) rfl rfl rfl OAwt83.out (BT.out.below Bwt83.out).ar LA3.out Bwt83.out.size ?_)
            intro ywt84 wt84 own gr _
            have bwt84 := grown_base Bwt83.out Bwt83.out.size gr OAwt83.out
            have OBwt84 := Lib.hid (OwnR.other OBwt83.out gr OAwt83.out (by decide))
            have KGwt84 := Lib.hid (kept_other KGwt83.out gr OAwt83.out (by decide))
            obtain ⟨Nwt84, nwt84, cwt84, hv, _, _, _, _⟩ := own.row'
            subst hv
            have OAwt84 := Lib.hid own
            have Bwt84 := Lib.hid bwt84
            refine hK.out _ _ (HS3.out _ bwt84) (fun hHeld => ?_)
            clear hK K own gr bwt84 Bwt83 OBwt83 KGwt83 OAwt83
            try go_frame
            refine wpAnyH_ready (rs := [6]) (by kernel_rfl) (by simp) ?_
            refine ready_cons (i := 6) (o := ⟨_, _, _, _, _, _⟩) rfl ?_ AllReadyH.nil
            · intro K hK
              refine call_step (f := 20) (args := #[batV A n c M m d]) rfl (by kernel_rfl) ?_
              refine (real13_any A n c M m d _ _ wt84 (BT.out.below Bwt84.out) hm1).mono ?_; rintro r wt85 ⟨Mrwt85, drwt85, rfl, hbr, hl⟩; have hr := hbr.mr; clear hbr
              have bwt85 := Bwt84.out.trans (hl.mono Bwt84.out.size)
              have OAwt85 := Lib.hid (OwnR.below OAwt84.out hl)
              have OBwt85 := Lib.hid (OwnR.below OBwt84.out hl)
              have KGwt85 := Lib.hid (kb_below KGwt84.out hl)
              have RRwt85 := Lib.hid hr
              have Bwt85 := Lib.hid bwt85
              refine ⟨_, rfl, ?_⟩
              refine hK.out _ _ (HS3.out _ bwt85) (fun hHeld => ?_)
              clear hK K hl hr bwt85 Bwt84 OAwt84 OBwt84 KGwt84
              try go_frame
              refine wpAnyH_take (i := 7) (oi := ⟨_, _, _, _, _, _⟩) (v := ?_) rfl (by kernel_rfl) (by kernel_rfl) (by kernel_rfl) (fun _ _ _ h => h) (Or.inl ⟨by rfl, ?_⟩) (by assumption) ?_
              rotate_left
              · intro w hSw; (try dsimp only at hSw); go_simp; try (with_reducible rfl)
              try go_frame
              refine wpAnyH_ready (rs := [8]) (by kernel_rfl) (by simp) ?_
              refine ready_cons (i := 8) (o := ⟨_, _, _, _, _, _⟩) rfl ?_ AllReadyH.nil
              · intro K hK
                refine Stepping.mk (appS_step tMR (base := w3.heap.size) rfl (.tmp 24) (.tmp 27) rfl rfl rfl OBwt85.out RRwt85.out LB3.out Bwt85.out.size ?_)
                intro ywt86 wt86 own gr _
                have bwt86 := grown_base Bwt85.out Bwt85.out.size gr OBwt85.out
                have OAwt86 := Lib.hid (OwnR.other OAwt85.out gr OBwt85.out (by decide))
                have KGwt86 := Lib.hid (kept_other KGwt85.out gr OBwt85.out (by decide))
                obtain ⟨Nwt86, nwt86, cwt86, hv, _, _, _, _⟩ := own.row'
                subst hv
                have OBwt86 := Lib.hid own
                have Bwt86 := Lib.hid bwt86
                refine hK.out _ _ (HS3.out _ bwt86) (fun hHeld => ?_)
                clear hK K own gr bwt86 Bwt85 OAwt85 KGwt85 OBwt85 RRwt85
                try go_frame
                refine wpAnyH_take (i := 9) (oi := ⟨_, _, _, _, _, _⟩) (v := ?_) rfl (by kernel_rfl) (by kernel_rfl) (by kernel_rfl) (fun _ _ _ h => h) (Or.inl ⟨by rfl, ?_⟩) (by assumption) ?_
                rotate_left
                · intro w hSw; (try dsimp only at hSw); go_simp; try (with_reducible rfl)
                try go_frame
                refine wpAnyH_ready (rs := [11]) (by kernel_rfl) (by simp) ?_
                refine ready_cons (i := 11) (o := ⟨_, _, _, _, _, _⟩) rfl ?_ AllReadyH.nil
                · intro K hK
                  have TW := twin_store Bwt86.out GLwt83.out KGwt86.out OAwt86.out OBwt86.out (by decide) (by decide)
                  obtain ⟨z0, z1⟩ := bobj_cells KGwt86.out
                  have zf0 := frozen_of KGwt86.out 0
                  have zf1 := frozen_of KGwt86.out 1
                  have HTW := Lib.hid TW
                  clear TW
                  constructor
                  go_simp
                  refine hK.out _ _ (HS3.out _ HTW.out.low) (fun hHeld => ?_)
                  clear hK K
                  refine wpAnyH_done (by kernel_rfl) ?_ _
                  go_wp2
                  go_meet
                  exact ⟨_, _, _, _, _, _, _, rfl, HTW.out⟩
      · intro K hK
        constructor
        go_simp
        have bwt88 := Bwt69.out.alloc Bwt69.out.size (bobj 25 none 0 0 none 0 0)
        refine hK.out _ _ (HS3.out _ bwt88) (fun hHeld => ?_)
        have Bwt88 := Lib.hid bwt88
        have OBwt88 := Lib.hid (OwnR.alloc OBwt69.out (bobj 25 none 0 0 none 0 0))
        have KGwt88 := Lib.hid (heap_alloc_at wt69 (bobj 25 none 0 0 none 0 0))
        have GLwt88 : Hid (w3.heap.size ≤ wt69.heap.size) := Lib.hid Bwt69.out.size
        clear hK K hHeld bwt88 Bwt69 OBwt69
        generalize wt69.heap.size = gwt88 at OBwt88 KGwt88 GLwt88 ⊢
        generalize wt69.alloc (bobj 25 none 0 0 none 0 0) = wt88 at OBwt88 KGwt88 GLwt88 Bwt88 ⊢
        refine wpAnyH_ready (rs := [0]) (by kernel_rfl) (by simp) ?_
        refine ready_cons (i := 0) (o := ⟨_, _, _, _, _, _⟩) rfl ?_ AllReadyH.nil
        · intro K hK
          constructor
          go_simp
          have bwt89 := Bwt88.out.alloc Bwt88.out.size (.cells #[] 3)
          refine hK.out _ _ (HS3.out _ bwt89) (fun hHeld => ?_)
          have Bwt89 := Lib.hid bwt89
          have OBwt89 := Lib.hid (OwnR.alloc OBwt88.out (.cells #[] 3))
          have KGwt89 := Lib.hid (kb_alloc KGwt88.out (.cells #[] 3))
          have OAwt89 := Lib.hid (OwnR.empty (R := irec) wt88 3 (base := w3.heap.size) Bwt88.out.size)
          clear hK K hHeld bwt89 Bwt88 OBwt88 KGwt88
          generalize wt88.heap.size = gwt89 at OAwt89 OBwt89 KGwt89 GLwt88 ⊢
          generalize wt88.alloc (.cells #[] 3) = wt89 at OAwt89 OBwt89 KGwt89 GLwt88 Bwt89 ⊢
          refine wpAnyH_ready (rs := [3]) (by kernel_rfl) (by simp) ?_
          refine ready_cons (i := 3) (o := ⟨_, _, _, _, _, _⟩) rfl ?_ AllReadyH.nil
          · intro K hK
            refine Stepping.mk (appS_step tI (base := w3.heap.size) rfl (.tmp 20) (.tmp 22) rfl rfl rfl OAwt89.out (BT.out.below Bwt89.out).ar LA3.out Bwt89.out.size ?_)
            intro ywt90 wt90 own gr _
            have bwt90 := grown_base Bwt89.out Bwt89.out.size gr OAwt89.out
            have OBwt90 := Lib.hid (OwnR.other OBwt89.out gr OAwt89.out (by decide))
            have KGwt90 := Lib.hid (kept_other KGwt89.out gr OAwt89.out (by decide))
            obtain ⟨Nwt90, nwt90, cwt90, hv, _, _, _, _⟩ := own.row'
            subst hv
            have OAwt90 := Lib.hid own
            have Bwt90 := Lib.hid bwt90
            refine hK.out _ _ (HS3.out _ bwt90) (fun hHeld => ?_)
            clear hK K own gr bwt90 Bwt89 OBwt89 KGwt89 OAwt89
            try go_frame
            refine wpAnyH_ready (rs := [6]) (by kernel_rfl) (by simp) ?_
            refine ready_cons (i := 6) (o := ⟨_, _, _, _, _, _⟩) rfl ?_ AllReadyH.nil
            · intro K hK
              refine call_step (f := 20) (args := #[batV A n c M m d]) rfl (by kernel_rfl) ?_
              refine (real13_any A n c M m d _ _ wt90 (BT.out.below Bwt90.out) hm1).mono ?_; rintro r wt91 ⟨Mrwt91, drwt91, rfl, hbr, hl⟩; have hr := hbr.mr; clear hbr
              have bwt91 := Bwt90.out.trans (hl.mono Bwt90.out.size)
              have OAwt91 := Lib.hid (OwnR.below OAwt90.out hl)
              have OBwt91 := Lib.hid (OwnR.below OBwt90.out hl)
              have KGwt91 := Lib.hid (kb_below KGwt90.out hl)
              have RRwt91 := Lib.hid hr
              have Bwt91 := Lib.hid bwt91
              refine ⟨_, rfl, ?_⟩
              refine hK.out _ _ (HS3.out _ bwt91) (fun hHeld => ?_)
              clear hK K hl hr bwt91 Bwt90 OAwt90 OBwt90 KGwt90
              try go_frame
              refine wpAnyH_take (i := 7) (oi := ⟨_, _, _, _, _, _⟩) (v := ?_) rfl (by kernel_rfl) (by kernel_rfl) (by kernel_rfl) (fun _ _ _ h => h) (Or.inl ⟨by rfl, ?_⟩) (by assumption) ?_
              rotate_left
              · intro w hSw; (try dsimp only at hSw); go_simp; try (with_reducible rfl)
              try go_frame
              refine wpAnyH_ready (rs := [8]) (by kernel_rfl) (by simp) ?_
              refine ready_cons (i := 8) (o := ⟨_, _, _, _, _, _⟩) rfl ?_ AllReadyH.nil
              · intro K hK
                refine Stepping.mk (appS_step tMR (base := w3.heap.size) rfl (.tmp 24) (.tmp 27) rfl rfl rfl OBwt91.out RRwt91.out LB3.out Bwt91.out.size ?_)
                intro ywt92 wt92 own gr _
                have bwt92 := grown_base Bwt91.out Bwt91.out.size gr OBwt91.out
                have OAwt92 := Lib.hid (OwnR.other OAwt91.out gr OBwt91.out (by decide))
                have KGwt92 := Lib.hid (kept_other KGwt91.out gr OBwt91.out (by decide))
                obtain ⟨Nwt92, nwt92, cwt92, hv, _, _, _, _⟩ := own.row'
                subst hv
                have OBwt92 := Lib.hid own
                have Bwt92 := Lib.hid bwt92
                refine hK.out _ _ (HS3.out _ bwt92) (fun hHeld => ?_)
                clear hK K own gr bwt92 Bwt91 OAwt91 KGwt91 OBwt91 RRwt91
                try go_frame
                refine wpAnyH_take (i := 9) (oi := ⟨_, _, _, _, _, _⟩) (v := ?_) rfl (by kernel_rfl) (by kernel_rfl) (by kernel_rfl) (fun _ _ _ h => h) (Or.inl ⟨by rfl, ?_⟩) (by assumption) ?_
                rotate_left
                · intro w hSw; (try dsimp only at hSw); go_simp; try (with_reducible rfl)
                try go_frame
                refine wpAnyH_ready (rs := [11]) (by kernel_rfl) (by simp) ?_
                refine ready_cons (i := 11) (o := ⟨_, _, _, _, _, _⟩) rfl ?_ AllReadyH.nil
                · intro K hK
                  have TW := twin_store Bwt92.out GLwt88.out KGwt92.out OAwt92.out OBwt92.out (by decide) (by decide)
                  obtain ⟨z0, z1⟩ := bobj_cells KGwt92.out
                  have zf0 := frozen_of KGwt92.out 0
                  have zf1 := frozen_of KGwt92.out 1
                  have HTW := Lib.hid TW
                  clear TW
                  constructor
                  go_simp
                  refine hK.out _ _ (HS3.out _ HTW.out.low) (fun hHeld => ?_)
                  clear hK K
                  refine wpAnyH_done (by kernel_rfl) ?_ _
                  go_wp2
                  go_meet
                  exact ⟨_, _, _, _, _, _, _, rfl, HTW.out⟩
    · intro K hK
      constructor
      go_simp
      have bwt94 := Bwt0.out.alloc Bwt0.out.size (bobj 25 none 0 0 none 0 0)
      refine hK.out _ _ (HS3.out _ bwt94) (fun hHeld => ?_)
      have Bwt94 := Lib.hid bwt94
      have KGwt94 := Lib.hid (heap_alloc_at wt0 (bobj 25 none 0 0 none 0 0))
      have GLwt94 : Hid (w3.heap.size ≤ wt0.heap.size) := Lib.hid Bwt0.out.size
      clear hK K hHeld bwt94 Bwt0 
      generalize wt0.heap.size = gwt94 at KGwt94 GLwt94 ⊢
      generalize wt0.alloc (bobj 25 none 0 0 none 0 0) = wt94 at KGwt94 GLwt94 Bwt94 ⊢
      refine wpAnyH_ready (rs := [0, 4]) (by kernel_rfl) (by simp) ?_
      refine ready_cons (i := 0) (o := ⟨_, _, _, _, _, _⟩) rfl ?_ (ready_cons (i := 4) (o := ⟨_, _, _, _, _, _⟩) rfl ?_ AllReadyH.nil)
      · intro K hK
        constructor
        go_simp
        have bwt95 := Bwt94.out.alloc Bwt94.out.size (.cells #[] 3)
        refine hK.out _ _ (HS3.out _ bwt95) (fun hHeld => ?_)
        have Bwt95 := Lib.hid bwt95
        have KGwt95 := Lib.hid (kb_alloc KGwt94.out (.cells #[] 3))
        have OAwt95 := Lib.hid (OwnR.empty (R := irec) wt94 3 (base := w3.heap.size) Bwt94.out.size)
        clear hK K hHeld bwt95 Bwt94 KGwt94
        generalize wt94.heap.size = gwt95 at OAwt95 KGwt95 GLwt94 ⊢
        generalize wt94.alloc (.cells #[] 3) = wt95 at OAwt95 KGwt95 GLwt94 Bwt95 ⊢
        refine wpAnyH_ready (rs := [3, 4]) (by kernel_rfl) (by simp) ?_
        refine ready_cons (i := 3) (o := ⟨_, _, _, _, _, _⟩) rfl ?_ (ready_cons (i := 4) (o := ⟨_, _, _, _, _, _⟩) rfl ?_ AllReadyH.nil)
        · intro K hK
          refine Stepping.mk (appS_step tI (base := w3.heap.size) rfl (.tmp 20) (.tmp 22) rfl rfl rfl OAwt95.out (BT.out.below Bwt95.out).ar LA3.out Bwt95.out.size ?_)
          intro ywt96 wt96 own gr _
          have bwt96 := grown_base Bwt95.out Bwt95.out.size gr OAwt95.out
          have KGwt96 := Lib.hid (kept_other KGwt95.out gr OAwt95.out (by decide))
          obtain ⟨Nwt96, nwt96, cwt96, hv, _, _, _, _⟩ := own.row'
          subst hv
          have OAwt96 := Lib.hid own
          have Bwt96 := Lib.hid bwt96
          refine hK.out _ _ (HS3.out _ bwt96) (fun hHeld => ?_)
          clear hK K own gr bwt96 Bwt95 KGwt95 OAwt95
          try go_frame
          refine wpAnyH_ready (rs := [4, 6]) (by kernel_rfl) (by simp) ?_
          refine ready_cons (i := 4) (o := ⟨_, _, _, _, _, _⟩) rfl ?_ (ready_cons (i := 6) (o := ⟨_, _, _, _, _, _⟩) rfl ?_ AllReadyH.nil)
          · intro K hK
            constructor
            go_simp
            have bwt97 := Bwt96.out.alloc Bwt96.out.size (.cells #[] 45)
            refine hK.out _ _ (HS3.out _ bwt97) (fun hHeld => ?_)
            have Bwt97 := Lib.hid bwt97
            have OAwt97 := Lib.hid (OwnR.alloc OAwt96.out (.cells #[] 45))
            have KGwt97 := Lib.hid (kb_alloc KGwt96.out (.cells #[] 45))
            have OBwt97 := Lib.hid (OwnR.empty (R := prec) wt96 45 (base := w3.heap.size) Bwt96.out.size)
            clear hK K hHeld bwt97 Bwt96 OAwt96 KGwt96
            generalize wt96.heap.size = gwt97 at OAwt97 OBwt97 KGwt97 GLwt94 ⊢
            generalize wt96.alloc (.cells #[] 45) = wt97 at OAwt97 OBwt97 KGwt97 GLwt94 Bwt97 ⊢
            refine wpAnyH_ready (rs := [6]) (by kernel_rfl) (by simp) ?_
            refine ready_cons (i := 6) (o := ⟨_, _, _, _, _, _⟩) rfl ?_ AllReadyH.nil
            · intro K hK
              refine call_step (f := 20) (args := #[batV A n c M m d]) rfl (by kernel_rfl) ?_
              refine (real13_any A n c M m d _ _ wt97 (BT.out.below Bwt97.out) hm1).mono ?_; rintro r wt98 ⟨Mrwt98, drwt98, rfl, hbr, hl⟩; have hr := hbr.mr; clear hbr
              have bwt98 := Bwt97.out.trans (hl.mono Bwt97.out.size)
              have OAwt98 := Lib.hid (OwnR.below OAwt97.out hl)
              have OBwt98 := Lib.hid (OwnR.below OBwt97.out hl)
              have KGwt98 := Lib.hid (kb_below KGwt97.out hl)
              have RRwt98 := Lib.hid hr
              have Bwt98 := Lib.hid bwt98
              refine ⟨_, rfl, ?_⟩
              refine hK.out _ _ (HS3.out _ bwt98) (fun hHeld => ?_)
              clear hK K hl hr bwt98 Bwt97 OAwt97 OBwt97 KGwt97
              try go_frame
              refine wpAnyH_take (i := 7) (oi := ⟨_, _, _, _, _, _⟩) (v := ?_) rfl (by kernel_rfl) (by kernel_rfl) (by kernel_rfl) (fun _ _ _ h => h) (Or.inl ⟨by rfl, ?_⟩) (by assumption) ?_
              rotate_left
              · intro w hSw; (try dsimp only at hSw); go_simp; try (with_reducible rfl)
              try go_frame
              refine wpAnyH_ready (rs := [8]) (by kernel_rfl) (by simp) ?_
              refine ready_cons (i := 8) (o := ⟨_, _, _, _, _, _⟩) rfl ?_ AllReadyH.nil
              · intro K hK
                refine Stepping.mk (appS_step tMR (base := w3.heap.size) rfl (.tmp 24) (.tmp 27) rfl rfl rfl OBwt98.out RRwt98.out LB3.out Bwt98.out.size ?_)
                intro ywt99 wt99 own gr _
                have bwt99 := grown_base Bwt98.out Bwt98.out.size gr OBwt98.out
                have OAwt99 := Lib.hid (OwnR.other OAwt98.out gr OBwt98.out (by decide))
                have KGwt99 := Lib.hid (kept_other KGwt98.out gr OBwt98.out (by decide))
                obtain ⟨Nwt99, nwt99, cwt99, hv, _, _, _, _⟩ := own.row'
                subst hv
                have OBwt99 := Lib.hid own
                have Bwt99 := Lib.hid bwt99
                refine hK.out _ _ (HS3.out _ bwt99) (fun hHeld => ?_)
                clear hK K own gr bwt99 Bwt98 OAwt98 KGwt98 OBwt98 RRwt98
                try go_frame
                refine wpAnyH_take (i := 9) (oi := ⟨_, _, _, _, _, _⟩) (v := ?_) rfl (by kernel_rfl) (by kernel_rfl) (by kernel_rfl) (fun _ _ _ h => h) (Or.inl ⟨by rfl, ?_⟩) (by assumption) ?_
                rotate_left
                · intro w hSw; (try dsimp only at hSw); go_simp; try (with_reducible rfl)
                try go_frame
                refine wpAnyH_ready (rs := [11]) (by kernel_rfl) (by simp) ?_
                refine ready_cons (i := 11) (o := ⟨_, _, _, _, _, _⟩) rfl ?_ AllReadyH.nil
                · intro K hK
                  have TW := twin_store Bwt99.out GLwt94.out KGwt99.out OAwt99.out OBwt99.out (by decide) (by decide)
                  obtain ⟨z0, z1⟩ := bobj_cells KGwt99.out
                  have zf0 := frozen_of KGwt99.out 0
                  have zf1 := frozen_of KGwt99.out 1
                  have HTW := Lib.hid TW
                  clear TW
                  constructor
                  go_simp
                  refine hK.out _ _ (HS3.out _ HTW.out.low) (fun hHeld => ?_)
                  clear hK K
                  refine wpAnyH_done (by kernel_rfl) ?_ _
                  go_wp2
                  go_meet
                  exact ⟨_, _, _, _, _, _, _, rfl, HTW.out⟩
          · intro K hK
            refine call_step (f := 20) (args := #[batV A n c M m d]) rfl (by kernel_rfl) ?_
            refine (real13_any A n c M m d _ _ wt96 (BT.out.below Bwt96.out) hm1).mono ?_; rintro r wt101 ⟨Mrwt101, drwt101, rfl, hbr, hl⟩; have hr := hbr.mr; clear hbr
            have bwt101 := Bwt96.out.trans (hl.mono Bwt96.out.size)
            have OAwt101 := Lib.hid (OwnR.below OAwt96.out hl)
            have KGwt101 := Lib.hid (kb_below KGwt96.out hl)
            have RRwt101 := Lib.hid hr
            have Bwt101 := Lib.hid bwt101
            refine ⟨_, rfl, ?_⟩
            refine hK.out _ _ (HS3.out _ bwt101) (fun hHeld => ?_)
            clear hK K hl hr bwt101 Bwt96 OAwt96 KGwt96
            try go_frame
            refine wpAnyH_take (i := 7) (oi := ⟨_, _, _, _, _, _⟩) (v := ?_) rfl (by kernel_rfl) (by kernel_rfl) (by kernel_rfl) (fun _ _ _ h => h) (Or.inl ⟨by rfl, ?_⟩) (by assumption) ?_
            rotate_left
            · intro w hSw; (try dsimp only at hSw); go_simp; try (with_reducible rfl)
            try go_frame
            refine wpAnyH_ready (rs := [4]) (by kernel_rfl) (by simp) ?_
            refine ready_cons (i := 4) (o := ⟨_, _, _, _, _, _⟩) rfl ?_ AllReadyH.nil
            · intro K hK
              constructor
              go_simp
              have bwt102 := Bwt101.out.alloc Bwt101.out.size (.cells #[] 45)
              refine hK.out _ _ (HS3.out _ bwt102) (fun hHeld => ?_)
              have Bwt102 := Lib.hid bwt102
              have OAwt102 := Lib.hid (OwnR.alloc OAwt101.out (.cells #[] 45))
              have KGwt102 := Lib.hid (kb_alloc KGwt101.out (.cells #[] 45))
              have RRwt102 := Lib.hid (RowR.later RRwt101.out (below_alloc _ (.cells #[] 45)))
              have OBwt102 := Lib.hid (OwnR.empty (R := prec) wt101 45 (base := w3.heap.size) Bwt101.out.size)
              clear hK K hHeld bwt102 Bwt101 OAwt101 KGwt101 RRwt101
              generalize wt101.heap.size = gwt102 at OAwt102 OBwt102 KGwt102 GLwt94 ⊢
              generalize wt101.alloc (.cells #[] 45) = wt102 at OAwt102 OBwt102 KGwt102 GLwt94 RRwt102 Bwt102 ⊢
              refine wpAnyH_ready (rs := [8]) (by kernel_rfl) (by simp) ?_
              refine ready_cons (i := 8) (o := ⟨_, _, _, _, _, _⟩) rfl ?_ AllReadyH.nil
              · intro K hK
                refine Stepping.mk (appS_step tMR (base := w3.heap.size) rfl (.tmp 24) (.tmp 27) rfl rfl rfl OBwt102.out RRwt102.out LB3.out Bwt102.out.size ?_)
                intro ywt103 wt103 own gr _
                have bwt103 := grown_base Bwt102.out Bwt102.out.size gr OBwt102.out
                have OAwt103 := Lib.hid (OwnR.other OAwt102.out gr OBwt102.out (by decide))
                have KGwt103 := Lib.hid (kept_other KGwt102.out gr OBwt102.out (by decide))
                obtain ⟨Nwt103, nwt103, cwt103, hv, _, _, _, _⟩ := own.row'
                subst hv
                have OBwt103 := Lib.hid own
                have Bwt103 := Lib.hid bwt103
                refine hK.out _ _ (HS3.out _ bwt103) (fun hHeld => ?_)
                clear hK K own gr bwt103 Bwt102 OAwt102 KGwt102 OBwt102 RRwt102
                try go_frame
                refine wpAnyH_take (i := 9) (oi := ⟨_, _, _, _, _, _⟩) (v := ?_) rfl (by kernel_rfl) (by kernel_rfl) (by kernel_rfl) (fun _ _ _ h => h) (Or.inl ⟨by rfl, ?_⟩) (by assumption) ?_
                rotate_left
                · intro w hSw; (try dsimp only at hSw); go_simp; try (with_reducible rfl)
                try go_frame
                refine wpAnyH_ready (rs := [11]) (by kernel_rfl) (by simp) ?_
                refine ready_cons (i := 11) (o := ⟨_, _, _, _, _, _⟩) rfl ?_ AllReadyH.nil
                · intro K hK
                  have TW := twin_store Bwt103.out GLwt94.out KGwt103.out OAwt103.out OBwt103.out (by decide) (by decide)
                  obtain ⟨z0, z1⟩ := bobj_cells KGwt103.out
                  have zf0 := frozen_of KGwt103.out 0
                  have zf1 := frozen_of KGwt103.out 1
                  have HTW := Lib.hid TW
                  clear TW
                  constructor
                  go_simp
                  refine hK.out _ _ (HS3.out _ HTW.out.low) (fun hHeld => ?_)
                  clear hK K
                  refine wpAnyH_done (by kernel_rfl) ?_ _
                  go_wp2
                  go_meet
                  exact ⟨_, _, _, _, _, _, _, rfl, HTW.out⟩
        · intro K hK
          constructor
          go_simp
          have bwt105 := Bwt95.out.alloc Bwt95.out.size (.cells #[] 45)
          refine hK.out _ _ (HS3.out _ bwt105) (fun hHeld => ?_)
          have Bwt105 := Lib.hid bwt105
          have OAwt105 := Lib.hid (OwnR.alloc OAwt95.out (.cells #[] 45))
          have KGwt105 := Lib.hid (kb_alloc KGwt95.out (.cells #[] 45))
          have OBwt105 := Lib.hid (OwnR.empty (R := prec) wt95 45 (base := w3.heap.size) Bwt95.out.size)
          clear hK K hHeld bwt105 Bwt95 OAwt95 KGwt95
          generalize wt95.heap.size = gwt105 at OAwt105 OBwt105 KGwt105 GLwt94 ⊢
          generalize wt95.alloc (.cells #[] 45) = wt105 at OAwt105 OBwt105 KGwt105 GLwt94 Bwt105 ⊢
          refine wpAnyH_ready (rs := [3]) (by kernel_rfl) (by simp) ?_
          refine ready_cons (i := 3) (o := ⟨_, _, _, _, _, _⟩) rfl ?_ AllReadyH.nil
          · intro K hK
            refine Stepping.mk (appS_step tI (base := w3.heap.size) rfl (.tmp 20) (.tmp 22) rfl rfl rfl OAwt105.out (BT.out.below Bwt105.out).ar LA3.out Bwt105.out.size ?_)
            intro ywt106 wt106 own gr _
            have bwt106 := grown_base Bwt105.out Bwt105.out.size gr OAwt105.out
            have OBwt106 := Lib.hid (OwnR.other OBwt105.out gr OAwt105.out (by decide))
            have KGwt106 := Lib.hid (kept_other KGwt105.out gr OAwt105.out (by decide))
            obtain ⟨Nwt106, nwt106, cwt106, hv, _, _, _, _⟩ := own.row'
            subst hv
            have OAwt106 := Lib.hid own
            have Bwt106 := Lib.hid bwt106
            refine hK.out _ _ (HS3.out _ bwt106) (fun hHeld => ?_)
            clear hK K own gr bwt106 Bwt105 OBwt105 KGwt105 OAwt105
            try go_frame
            refine wpAnyH_ready (rs := [6]) (by kernel_rfl) (by simp) ?_
            refine ready_cons (i := 6) (o := ⟨_, _, _, _, _, _⟩) rfl ?_ AllReadyH.nil
            · intro K hK
              refine call_step (f := 20) (args := #[batV A n c M m d]) rfl (by kernel_rfl) ?_
              refine (real13_any A n c M m d _ _ wt106 (BT.out.below Bwt106.out) hm1).mono ?_; rintro r wt107 ⟨Mrwt107, drwt107, rfl, hbr, hl⟩; have hr := hbr.mr; clear hbr
              have bwt107 := Bwt106.out.trans (hl.mono Bwt106.out.size)
              have OAwt107 := Lib.hid (OwnR.below OAwt106.out hl)
              have OBwt107 := Lib.hid (OwnR.below OBwt106.out hl)
              have KGwt107 := Lib.hid (kb_below KGwt106.out hl)
              have RRwt107 := Lib.hid hr
              have Bwt107 := Lib.hid bwt107
              refine ⟨_, rfl, ?_⟩
              refine hK.out _ _ (HS3.out _ bwt107) (fun hHeld => ?_)
              clear hK K hl hr bwt107 Bwt106 OAwt106 OBwt106 KGwt106
              try go_frame
              refine wpAnyH_take (i := 7) (oi := ⟨_, _, _, _, _, _⟩) (v := ?_) rfl (by kernel_rfl) (by kernel_rfl) (by kernel_rfl) (fun _ _ _ h => h) (Or.inl ⟨by rfl, ?_⟩) (by assumption) ?_
              rotate_left
              · intro w hSw; (try dsimp only at hSw); go_simp; try (with_reducible rfl)
              try go_frame
              refine wpAnyH_ready (rs := [8]) (by kernel_rfl) (by simp) ?_
              refine ready_cons (i := 8) (o := ⟨_, _, _, _, _, _⟩) rfl ?_ AllReadyH.nil
              · intro K hK
                refine Stepping.mk (appS_step tMR (base := w3.heap.size) rfl (.tmp 24) (.tmp 27) rfl rfl rfl OBwt107.out RRwt107.out LB3.out Bwt107.out.size ?_)
                intro ywt108 wt108 own gr _
                have bwt108 := grown_base Bwt107.out Bwt107.out.size gr OBwt107.out
                have OAwt108 := Lib.hid (OwnR.other OAwt107.out gr OBwt107.out (by decide))
                have KGwt108 := Lib.hid (kept_other KGwt107.out gr OBwt107.out (by decide))
                obtain ⟨Nwt108, nwt108, cwt108, hv, _, _, _, _⟩ := own.row'
                subst hv
                have OBwt108 := Lib.hid own
                have Bwt108 := Lib.hid bwt108
                refine hK.out _ _ (HS3.out _ bwt108) (fun hHeld => ?_)
                clear hK K own gr bwt108 Bwt107 OAwt107 KGwt107 OBwt107 RRwt107
                try go_frame
                refine wpAnyH_take (i := 9) (oi := ⟨_, _, _, _, _, _⟩) (v := ?_) rfl (by kernel_rfl) (by kernel_rfl) (by kernel_rfl) (fun _ _ _ h => h) (Or.inl ⟨by rfl, ?_⟩) (by assumption) ?_
                rotate_left
                · intro w hSw; (try dsimp only at hSw); go_simp; try (with_reducible rfl)
                try go_frame
                refine wpAnyH_ready (rs := [11]) (by kernel_rfl) (by simp) ?_
                refine ready_cons (i := 11) (o := ⟨_, _, _, _, _, _⟩) rfl ?_ AllReadyH.nil
                · intro K hK
                  have TW := twin_store Bwt108.out GLwt94.out KGwt108.out OAwt108.out OBwt108.out (by decide) (by decide)
                  obtain ⟨z0, z1⟩ := bobj_cells KGwt108.out
                  have zf0 := frozen_of KGwt108.out 0
                  have zf1 := frozen_of KGwt108.out 1
                  have HTW := Lib.hid TW
                  clear TW
                  constructor
                  go_simp
                  refine hK.out _ _ (HS3.out _ HTW.out.low) (fun hHeld => ?_)
                  clear hK K
                  refine wpAnyH_done (by kernel_rfl) ?_ _
                  go_wp2
                  go_meet
                  exact ⟨_, _, _, _, _, _, _, rfl, HTW.out⟩
      · intro K hK
        constructor
        go_simp
        have bwt110 := Bwt94.out.alloc Bwt94.out.size (.cells #[] 45)
        refine hK.out _ _ (HS3.out _ bwt110) (fun hHeld => ?_)
        have Bwt110 := Lib.hid bwt110
        have KGwt110 := Lib.hid (kb_alloc KGwt94.out (.cells #[] 45))
        have OBwt110 := Lib.hid (OwnR.empty (R := prec) wt94 45 (base := w3.heap.size) Bwt94.out.size)
        clear hK K hHeld bwt110 Bwt94 KGwt94
        generalize wt94.heap.size = gwt110 at OBwt110 KGwt110 GLwt94 ⊢
        generalize wt94.alloc (.cells #[] 45) = wt110 at OBwt110 KGwt110 GLwt94 Bwt110 ⊢
        refine wpAnyH_ready (rs := [0]) (by kernel_rfl) (by simp) ?_
        refine ready_cons (i := 0) (o := ⟨_, _, _, _, _, _⟩) rfl ?_ AllReadyH.nil
        · intro K hK
          constructor
          go_simp
          have bwt111 := Bwt110.out.alloc Bwt110.out.size (.cells #[] 3)
          refine hK.out _ _ (HS3.out _ bwt111) (fun hHeld => ?_)
          have Bwt111 := Lib.hid bwt111
          have OBwt111 := Lib.hid (OwnR.alloc OBwt110.out (.cells #[] 3))
          have KGwt111 := Lib.hid (kb_alloc KGwt110.out (.cells #[] 3))
          have OAwt111 := Lib.hid (OwnR.empty (R := irec) wt110 3 (base := w3.heap.size) Bwt110.out.size)
          clear hK K hHeld bwt111 Bwt110 OBwt110 KGwt110
          generalize wt110.heap.size = gwt111 at OAwt111 OBwt111 KGwt111 GLwt94 ⊢
          generalize wt110.alloc (.cells #[] 3) = wt111 at OAwt111 OBwt111 KGwt111 GLwt94 Bwt111 ⊢
          refine wpAnyH_ready (rs := [3]) (by kernel_rfl) (by simp) ?_
          refine ready_cons (i := 3) (o := ⟨_, _, _, _, _, _⟩) rfl ?_ AllReadyH.nil
          · intro K hK
            refine Stepping.mk (appS_step tI (base := w3.heap.size) rfl (.tmp 20) (.tmp 22) rfl rfl rfl OAwt111.out (BT.out.below Bwt111.out).ar LA3.out Bwt111.out.size ?_)
            intro ywt112 wt112 own gr _
            have bwt112 := grown_base Bwt111.out Bwt111.out.size gr OAwt111.out
            have OBwt112 := Lib.hid (OwnR.other OBwt111.out gr OAwt111.out (by decide))
            have KGwt112 := Lib.hid (kept_other KGwt111.out gr OAwt111.out (by decide))
            obtain ⟨Nwt112, nwt112, cwt112, hv, _, _, _, _⟩ := own.row'
            subst hv
            have OAwt112 := Lib.hid own
            have Bwt112 := Lib.hid bwt112
            refine hK.out _ _ (HS3.out _ bwt112) (fun hHeld => ?_)
            clear hK K own gr bwt112 Bwt111 OBwt111 KGwt111 OAwt111
            try go_frame
            refine wpAnyH_ready (rs := [6]) (by kernel_rfl) (by simp) ?_
            refine ready_cons (i := 6) (o := ⟨_, _, _, _, _, _⟩) rfl ?_ AllReadyH.nil
            · intro K hK
              refine call_step (f := 20) (args := #[batV A n c M m d]) rfl (by kernel_rfl) ?_
              refine (real13_any A n c M m d _ _ wt112 (BT.out.below Bwt112.out) hm1).mono ?_; rintro r wt113 ⟨Mrwt113, drwt113, rfl, hbr, hl⟩; have hr := hbr.mr; clear hbr
              have bwt113 := Bwt112.out.trans (hl.mono Bwt112.out.size)
              have OAwt113 := Lib.hid (OwnR.below OAwt112.out hl)
              have OBwt113 := Lib.hid (OwnR.below OBwt112.out hl)
              have KGwt113 := Lib.hid (kb_below KGwt112.out hl)
              have RRwt113 := Lib.hid hr
              have Bwt113 := Lib.hid bwt113
              refine ⟨_, rfl, ?_⟩
              refine hK.out _ _ (HS3.out _ bwt113) (fun hHeld => ?_)
              clear hK K hl hr bwt113 Bwt112 OAwt112 OBwt112 KGwt112
              try go_frame
              refine wpAnyH_take (i := 7) (oi := ⟨_, _, _, _, _, _⟩) (v := ?_) rfl (by kernel_rfl) (by kernel_rfl) (by kernel_rfl) (fun _ _ _ h => h) (Or.inl ⟨by rfl, ?_⟩) (by assumption) ?_
              rotate_left
              · intro w hSw; (try dsimp only at hSw); go_simp; try (with_reducible rfl)
              try go_frame
              refine wpAnyH_ready (rs := [8]) (by kernel_rfl) (by simp) ?_
              refine ready_cons (i := 8) (o := ⟨_, _, _, _, _, _⟩) rfl ?_ AllReadyH.nil
              · intro K hK
                refine Stepping.mk (appS_step tMR (base := w3.heap.size) rfl (.tmp 24) (.tmp 27) rfl rfl rfl OBwt113.out RRwt113.out LB3.out Bwt113.out.size ?_)
                intro ywt114 wt114 own gr _
                have bwt114 := grown_base Bwt113.out Bwt113.out.size gr OBwt113.out
                have OAwt114 := Lib.hid (OwnR.other OAwt113.out gr OBwt113.out (by decide))
                have KGwt114 := Lib.hid (kept_other KGwt113.out gr OBwt113.out (by decide))
                obtain ⟨Nwt114, nwt114, cwt114, hv, _, _, _, _⟩ := own.row'
                subst hv
                have OBwt114 := Lib.hid own
                have Bwt114 := Lib.hid bwt114
                refine hK.out _ _ (HS3.out _ bwt114) (fun hHeld => ?_)
                clear hK K own gr bwt114 Bwt113 OAwt113 KGwt113 OBwt113 RRwt113
                try go_frame
                refine wpAnyH_take (i := 9) (oi := ⟨_, _, _, _, _, _⟩) (v := ?_) rfl (by kernel_rfl) (by kernel_rfl) (by kernel_rfl) (fun _ _ _ h => h) (Or.inl ⟨by rfl, ?_⟩) (by assumption) ?_
                rotate_left
                · intro w hSw; (try dsimp only at hSw); go_simp; try (with_reducible rfl)
                try go_frame
                refine wpAnyH_ready (rs := [11]) (by kernel_rfl) (by simp) ?_
                refine ready_cons (i := 11) (o := ⟨_, _, _, _, _, _⟩) rfl ?_ AllReadyH.nil
                · intro K hK
                  have TW := twin_store Bwt114.out GLwt94.out KGwt114.out OAwt114.out OBwt114.out (by decide) (by decide)
                  obtain ⟨z0, z1⟩ := bobj_cells KGwt114.out
                  have zf0 := frozen_of KGwt114.out 0
                  have zf1 := frozen_of KGwt114.out 1
                  have HTW := Lib.hid TW
                  clear TW
                  constructor
                  go_simp
                  refine hK.out _ _ (HS3.out _ HTW.out.low) (fun hHeld => ?_)
                  clear hK K
                  refine wpAnyH_done (by kernel_rfl) ?_ _
                  go_wp2
                  go_meet
                  exact ⟨_, _, _, _, _, _, _, rfl, HTW.out⟩
  case rest =>
    obtain ⟨g10, A1, n1, c1, M1, m1, d1, rfl, tw⟩ := hcut
    have h1 := tw.ra.row.1.1
    have h2 := tw.rb.row.1.1
    obtain rfl : n1 = n := by have h3 := BT.out.alen; omega
    obtain rfl : m1 = m := by have h3 := BT.out.mlen; omega
    have K8 := Lib.hid (kb_below K3.out tw.low)
    have BT4 := Lib.hid (BT.out.below tw.low)
    have KX4 := Lib.hid (kb_below KX.out tw.low)
    have KY4 := Lib.hid (kb_below KY.out tw.low)
    have B4 := Lib.hid (B3.out.trans (tw.low.mono B3.out.size))
    have W4 := Lib.hid (tw.bat BT.out.fits)
    have K10 : Hid (wc.heap[g10]? = some (bobj 25 A1 n1 c1 M1 m1 d1)) := Lib.hid tw.blk
    clear tw h1 h2 K3 BT KX KY B3 HS3 LA3 LB3 hfld hg
    obtain ⟨x0, x1⟩ := bobj_cells K8.out
    have u0 : wc.cell? ⟨w.heap.size, 0, none⟩ = some (.int .i64 xa) := by rw [cell_of KX4.out]; rfl
    have u1 : wc.cell? ⟨w.heap.size, 1, none⟩ = some (.int .i64 xb) := by rw [cell_of KX4.out]; rfl
    have AC := Lib.hid (badd_any A n1 c M m1 d zs ms xa xb 9 wc BT4.out XF.out (by omega) hm1)
    have EA : Hid ((addA zs xb 9).length ≤ 100 ∧ (addM zs ms xa xb 9).length ≤ 100) := Lib.hid (by
      have h1 := addA_len zs xb 9
      have h2 := addM_len zs ms xa xb 9
      have h3 := BT4.out.alen
      have h4 := BT4.out.mlen
      omega)
    go_wp2_with fail
    clear x0 x1 u0 u1
    refine AC.out.mono ?_
    rintro r w5 ⟨A5, n5, c5, M5, m5, d5, rfl, b5, _, l5⟩
    generalize addA zs xb 9 = zs5 at *
    generalize addM zs ms xa xb 9 = ms5 at *
    have hn5 : n5 ≤ 100 := by have h1 := b5.alen; have h2 := EA.out.1; omega
    have hm5 : m5 ≤ 1000 := by have h1 := b5.mlen; have h2 := EA.out.2; omega
    have k6 := heap_alloc_at w5 (bobj 31 A5 n5 c5 M5 m5 d5)
    have b6 := below_alloc w5 (bobj 31 A5 n5 c5 M5 m5 d5)
    have l6 := l5.trans (b6.mono l5.size)
    have K11 := Lib.hid k6
    have BT11 := Lib.hid (b5.below b6)
    have K8' := Lib.hid (kb_below K8.out l6)
    have K10' := Lib.hid (kb_below K10.out l6)
    have BT8' := Lib.hid (BT4.out.below l6)
    have W10' := Lib.hid (W4.out.below l6)
    have KY6 := Lib.hid (kb_below KY4.out l6)
    have B6 := Lib.hid (B4.out.trans (l6.mono B4.out.size))
    generalize hg6 : w5.heap.size = g11 at *
    clear k6 b6 l6 l5 b5 K8 K10 BT4 W4 KX4 KY4 B4 AC
    go_wp2_with fail
    generalize w5.alloc (bobj 31 A5 n5 c5 M5 m5 d5) = w6 at *
    have HS6 : Hid (∀ wx, Below w6.heap.size w6 wx → wx.cell? ⟨g11, 0, none⟩ = some (.slice A5 n5 c5) ∧ wx.cell? ⟨g11, 1, none⟩ = some (.slice M5 m5 d5)) := Lib.hid (fun wx hb => cells_later K11.out hb)
    have hfld6 : ∀ (M' : Option Addr) (m' d' : Nat) (wx : World), (Instr.field 25 (batV A5 n5 c5 M' m' d') 1).run Try.prog wx = .ok (.slice M' m' d') wx := fun _ _ _ _ => by kernel_rfl
    have LA6 : Hid (([] : List Int).length + n5 ≤ 1048576) := Lib.hid (by simp; omega)
    have LB6 : Hid (([] : List P2).length + m5 ≤ 1048576) := Lib.hid (by simp; omega)
    go_cut [13] (fun vg wq => ∃ (g : Nat) (A1 : Option Addr) (n1 c1 : Nat) (M1 : Option Addr) (m1 d1 : Nat), vg = .pointer (some ⟨g, 0, none⟩) ∧ Twin irec prec w6 wq 25 3 45 g (.slice A1 n1 c1) (.slice M1 m1 d1) zs5 ms5)
    case first =>
      rename_i c2 J0 K0 c1' c0
      clear c2 B6 KY6 K8' K10' BT8' W10' HF YF hg6 EA hn20 hm20 hm1 hn5
      refine wp_region_held_drew (S := fun wx => wx.cell? ⟨g11, 0, none⟩ = some (.slice A5 n5 c5) ∧ wx.cell? ⟨g11, 1, none⟩ = some (.slice M5 m5 d5)) (by kernel_rfl) (HS6.out _ (ali_below (drew_ali w6))) (fun hHeld => ?_)
      have Bwt0 : Hid (Below w6.heap.size w6 w6.drew) := Lib.hid (ali_below (drew_ali _))
      generalize w6.drew = wt0 at *
      refine wpAnyH_take (i := 1) (oi := ⟨_, _, _, _, _, _⟩) (v := ?_) rfl (by kernel_rfl) (by kernel_rfl) (by kernel_rfl) (fun _ _ _ h => h) (Or.inl ⟨by rfl, ?_⟩) (by assumption) ?_
      rotate_left
      · intro w hSw; (try dsimp only at hSw); go_simp; try (with_reducible rfl)
      try go_frame
      refine wpAnyH_take (i := 2) (oi := ⟨_, _, _, _, _, _⟩) (v := ?_) rfl (by kernel_rfl) (by kernel_rfl) (by kernel_rfl) (fun _ _ _ h => h) (Or.inl ⟨by rfl, ?_⟩) (by assumption) ?_
      rotate_left
      · intro w hSw; (try dsimp only at hSw); go_simp; try (with_reducible rfl)
      try go_frame
      refine wpAnyH_take (i := 5) (oi := ⟨_, _, _, _, _, _⟩) (v := ?_) rfl (by kernel_rfl) (by kernel_rfl) (by kernel_rfl) (fun _ _ _ h => h) (Or.inl ⟨by rfl, ?_⟩) (by assumption) ?_
      rotate_left
      · intro w hSw; (try dsimp only at hSw); go_simp; try (with_reducible rfl)
      try go_frame
      refine wpAnyH_ready (rs := [0, 4, 10]) (by kernel_rfl) (by simp) ?_
      refine ready_cons (i := 0) (o := ⟨_, _, _, _, _, _⟩) rfl ?_ (ready_cons (i := 4) (o := ⟨_, _, _, _, _, _⟩) rfl ?_ (ready_cons (i := 10) (o := ⟨_, _, _, _, _, _⟩) rfl ?_ AllReadyH.nil))
      · intro K hK
        constructor
        go_simp
        have bwt1 := Bwt0.out.alloc Bwt0.out.size (.cells #[] 3)
        refine hK.out _ _ (HS6.out _ bwt1) (fun hHeld => ?_)
        have Bwt1 := Lib.hid bwt1
        have OAwt1 := Lib.hid (OwnR.empty (R := irec) wt0 3 (base := w6.heap.size) Bwt0.out.size)
        clear hK K hHeld bwt1 Bwt0 
        generalize wt0.heap.size = gwt1 at OAwt1 ⊢
        generalize wt0.alloc (.cells #[] 3) = wt1 at OAwt1 Bwt1 ⊢
        refine wpAnyH_ready (rs := [3, 4, 10]) (by kernel_rfl) (by simp) ?_
        refine ready_cons (i := 3) (o := ⟨_, _, _, _, _, _⟩) rfl ?_ (ready_cons (i := 4) (o := ⟨_, _, _, _, _, _⟩) rfl ?_ (ready_cons (i := 10) (o := ⟨_, _, _, _, _, _⟩) rfl ?_ AllReadyH.nil))
        · intro K hK
          refine Stepping.mk (appS_step tI (base := w6.heap.size) rfl (.tmp 39) (.tmp 41) rfl rfl rfl OAwt1.out (BT11.out.below Bwt1.out).ar LA6.out Bwt1.out.size ?_)
          intro ywt2 wt2 own gr _
          have bwt2 := grown_base Bwt1.out Bwt1.out.size gr OAwt1.out
          obtain ⟨Nwt2, nwt2, cwt2, hv, _, _, _, _⟩ := own.row'
          subst hv
          have OAwt2 := Lib.hid own
          have Bwt2 := Lib.hid bwt2
          refine hK.out _ _ (HS6.out _ bwt2) (fun hHeld => ?_)
          clear hK K own gr bwt2 Bwt1 OAwt1
          try go_frame
          refine wpAnyH_ready (rs := [4, 6, 10]) (by kernel_rfl) (by simp) ?_
          refine ready_cons (i := 4) (o := ⟨_, _, _, _, _, _⟩) rfl ?_ (ready_cons (i := 6) (o := ⟨_, _, _, _, _, _⟩) rfl ?_ (ready_cons (i := 10) (o := ⟨_, _, _, _, _, _⟩) rfl ?_ AllReadyH.nil))
          · intro K hK
            constructor
            go_simp
            have bwt3 := Bwt2.out.alloc Bwt2.out.size (.cells #[] 45)
            refine hK.out _ _ (HS6.out _ bwt3) (fun hHeld => ?_)
            have Bwt3 := Lib.hid bwt3
            have OAwt3 := Lib.hid (OwnR.alloc OAwt2.out (.cells #[] 45))
            have OBwt3 := Lib.hid (OwnR.empty (R := prec) wt2 45 (base := w6.heap.size) Bwt2.out.size)
            clear hK K hHeld bwt3 Bwt2 OAwt2
            generalize wt2.heap.size = gwt3 at OAwt3 OBwt3 ⊢
            generalize wt2.alloc (.cells #[] 45) = wt3 at OAwt3 OBwt3 Bwt3 ⊢
            refine wpAnyH_ready (rs := [6, 10]) (by kernel_rfl) (by simp) ?_
            refine ready_cons (i := 6) (o := ⟨_, _, _, _, _, _⟩) rfl ?_ (ready_cons (i := 10) (o := ⟨_, _, _, _, _, _⟩) rfl ?_ AllReadyH.nil)
            · intro K hK
              refine call_step (f := 20) (args := #[batV A5 n5 c5 M5 m5 d5]) rfl (by kernel_rfl) ?_
              refine (real13_any A5 n5 c5 M5 m5 d5 _ _ wt3 (BT11.out.below Bwt3.out) hm5).mono ?_; rintro r wt4 ⟨Mrwt4, drwt4, rfl, hbr, hl⟩; have hr := hbr.mr; clear hbr
              have bwt4 := Bwt3.out.trans (hl.mono Bwt3.out.size)
              have OAwt4 := Lib.hid (OwnR.below OAwt3.out hl)
              have OBwt4 := Lib.hid (OwnR.below OBwt3.out hl)
              have RRwt4 := Lib.hid hr
              have Bwt4 := Lib.hid bwt4
              refine ⟨_, rfl, ?_⟩
              refine hK.out _ _ (HS6.out _ bwt4) (fun hHeld => ?_)
              clear hK K hl hr bwt4 Bwt3 OAwt3 OBwt3
              try go_frame
              refine wpAnyH_take (i := 7) (oi := ⟨_, _, _, _, _, _⟩) (v := ?_) rfl (by kernel_rfl) (by kernel_rfl) (by kernel_rfl) (fun _ _ _ h => h) (Or.inl ⟨by rfl, ?_⟩) (by assumption) ?_
              rotate_left
              · intro w hSw; (try dsimp only at hSw); go_simp; try (with_reducible rfl)
              try go_frame
              refine wpAnyH_ready (rs := [8, 10]) (by kernel_rfl) (by simp) ?_
              refine ready_cons (i := 8) (o := ⟨_, _, _, _, _, _⟩) rfl ?_ (ready_cons (i := 10) (o := ⟨_, _, _, _, _, _⟩) rfl ?_ AllReadyH.nil)
              · intro K hK
                refine Stepping.mk (appS_step tMR (base := w6.heap.size) rfl (.tmp 43) (.tmp 46) rfl rfl rfl OBwt4.out RRwt4.out LB6.out Bwt4.out.size ?_)
                intro ywt5 wt5 own gr _
                have bwt5 := grown_base Bwt4.out Bwt4.out.size gr OBwt4.out
                have OAwt5 := Lib.hid (OwnR.other OAwt4.out gr OBwt4.out (by decide))
                obtain ⟨Nwt5, nwt5, cwt5, hv, _, _, _, _⟩ := own.row'
                subst hv
                have OBwt5 := Lib.hid own
                have Bwt5 := Lib.hid bwt5
                refine hK.out _ _ (HS6.out _ bwt5) (fun hHeld => ?_)
                clear hK K own gr bwt5 Bwt4 OAwt4 OBwt4 RRwt4
                try go_frame
                refine wpAnyH_take (i := 9) (oi := ⟨_, _, _, _, _, _⟩) (v := ?_) rfl (by kernel_rfl) (by kernel_rfl) (by kernel_rfl) (fun _ _ _ h => h) (Or.inl ⟨by rfl, ?_⟩) (by assumption) ?_
                rotate_left
                · intro w hSw; (try dsimp only at hSw); go_simp; try (with_reducible rfl)
                try go_frame
                refine wpAnyH_ready (rs := [10]) (by kernel_rfl) (by simp) ?_
                refine ready_cons (i := 10) (o := ⟨_, _, _, _, _, _⟩) rfl ?_ AllReadyH.nil
                · intro K hK
                  constructor
                  go_simp
                  have bwt6 := Bwt5.out.alloc Bwt5.out.size (bobj 25 none 0 0 none 0 0)
                  refine hK.out _ _ (HS6.out _ bwt6) (fun hHeld => ?_)
                  have Bwt6 := Lib.hid bwt6
                  have OAwt6 := Lib.hid (OwnR.alloc OAwt5.out (bobj 25 none 0 0 none 0 0))
                  have OBwt6 := Lib.hid (OwnR.alloc OBwt5.out (bobj 25 none 0 0 none 0 0))
                  have KGwt6 := Lib.hid (heap_alloc_at wt5 (bobj 25 none 0 0 none 0 0))
                  have GLwt6 : Hid (w6.heap.size ≤ wt5.heap.size) := Lib.hid Bwt5.out.size
                  clear hK K hHeld bwt6 Bwt5 OAwt5 OBwt5
                  generalize wt5.heap.size = gwt6 at OAwt6 OBwt6 KGwt6 GLwt6 ⊢
                  generalize wt5.alloc (bobj 25 none 0 0 none 0 0) = wt6 at OAwt6 OBwt6 KGwt6 GLwt6 Bwt6 ⊢
                  refine wpAnyH_ready (rs := [11]) (by kernel_rfl) (by simp) ?_
                  refine ready_cons (i := 11) (o := ⟨_, _, _, _, _, _⟩) rfl ?_ AllReadyH.nil
                  · intro K hK
                    have TW := twin_store Bwt6.out GLwt6.out KGwt6.out OAwt6.out OBwt6.out (by decide) (by decide)
                    obtain ⟨z0, z1⟩ := bobj_cells KGwt6.out
                    have zf0 := frozen_of KGwt6.out 0
                    have zf1 := frozen_of KGwt6.out 1
                    have HTW := Lib.hid TW
                    clear TW
                    constructor
                    go_simp
                    refine hK.out _ _ (HS6.out _ HTW.out.low) (fun hHeld => ?_)
                    clear hK K
                    refine wpAnyH_done (by kernel_rfl) ?_ _
                    go_wp2
                    go_meet
                    exact ⟨_, _, _, _, _, _, _, rfl, HTW.out⟩
              · intro K hK
                constructor
                go_simp
                have bwt8 := Bwt4.out.alloc Bwt4.out.size (bobj 25 none 0 0 none 0 0)
                refine hK.out _ _ (HS6.out _ bwt8) (fun hHeld => ?_)
                have Bwt8 := Lib.hid bwt8
                have OAwt8 := Lib.hid (OwnR.alloc OAwt4.out (bobj 25 none 0 0 none 0 0))
                have OBwt8 := Lib.hid (OwnR.alloc OBwt4.out (bobj 25 none 0 0 none 0 0))
                have RRwt8 := Lib.hid (RowR.later RRwt4.out (below_alloc _ (bobj 25 none 0 0 none 0 0)))
                have KGwt8 := Lib.hid (heap_alloc_at wt4 (bobj 25 none 0 0 none 0 0))
                have GLwt8 : Hid (w6.heap.size ≤ wt4.heap.size) := Lib.hid Bwt4.out.size
                clear hK K hHeld bwt8 Bwt4 OAwt4 OBwt4 RRwt4
                generalize wt4.heap.size = gwt8 at OAwt8 OBwt8 KGwt8 GLwt8 ⊢
                generalize wt4.alloc (bobj 25 none 0 0 none 0 0) = wt8 at OAwt8 OBwt8 KGwt8 GLwt8 RRwt8 Bwt8 ⊢
                refine wpAnyH_ready (rs := [8]) (by kernel_rfl) (by simp) ?_
                refine ready_cons (i := 8) (o := ⟨_, _, _, _, _, _⟩) rfl ?_ AllReadyH.nil
                · intro K hK
                  refine Stepping.mk (appS_step tMR (base := w6.heap.size) rfl (.tmp 43) (.tmp 46) rfl rfl rfl OBwt8.out RRwt8.out LB6.out Bwt8.out.size ?_)
                  intro ywt9 wt9 own gr _
                  have bwt9 := grown_base Bwt8.out Bwt8.out.size gr OBwt8.out
                  have OAwt9 := Lib.hid (OwnR.other OAwt8.out gr OBwt8.out (by decide))
                  have KGwt9 := Lib.hid (kept_other KGwt8.out gr OBwt8.out (by decide))
                  obtain ⟨Nwt9, nwt9, cwt9, hv, _, _, _, _⟩ := own.row'
                  subst hv
                  have OBwt9 := Lib.hid own
                  have Bwt9 := Lib.hid bwt9
                  refine hK.out _ _ (HS6.out _ bwt9) (fun hHeld => ?_)
                  clear hK K own gr bwt9 Bwt8 OAwt8 KGwt8 OBwt8 RRwt8
                  try go_frame
                  refine wpAnyH_take (i := 9) (oi := ⟨_, _, _, _, _, _⟩) (v := ?_) rfl (by kernel_rfl) (by kernel_rfl) (by kernel_rfl) (fun _ _ _ h => h) (Or.inl ⟨by rfl, ?_⟩) (by assumption) ?_
                  rotate_left
                  · intro w hSw; (try dsimp only at hSw); go_simp; try (with_reducible rfl)
                  try go_frame
                  refine wpAnyH_ready (rs := [11]) (by kernel_rfl) (by simp) ?_
                  refine ready_cons (i := 11) (o := ⟨_, _, _, _, _, _⟩) rfl ?_ AllReadyH.nil
                  · intro K hK
                    have TW := twin_store Bwt9.out GLwt8.out KGwt9.out OAwt9.out OBwt9.out (by decide) (by decide)
                    obtain ⟨z0, z1⟩ := bobj_cells KGwt9.out
                    have zf0 := frozen_of KGwt9.out 0
                    have zf1 := frozen_of KGwt9.out 1
                    have HTW := Lib.hid TW
                    clear TW
                    constructor
                    go_simp
                    refine hK.out _ _ (HS6.out _ HTW.out.low) (fun hHeld => ?_)
                    clear hK K
                    refine wpAnyH_done (by kernel_rfl) ?_ _
                    go_wp2
                    go_meet
                    exact ⟨_, _, _, _, _, _, _, rfl, HTW.out⟩
            · intro K hK
              constructor
              go_simp
              have bwt11 := Bwt3.out.alloc Bwt3.out.size (bobj 25 none 0 0 none 0 0)
              refine hK.out _ _ (HS6.out _ bwt11) (fun hHeld => ?_)
              have Bwt11 := Lib.hid bwt11
              have OAwt11 := Lib.hid (OwnR.alloc OAwt3.out (bobj 25 none 0 0 none 0 0))
              have OBwt11 := Lib.hid (OwnR.alloc OBwt3.out (bobj 25 none 0 0 none 0 0))
              have KGwt11 := Lib.hid (heap_alloc_at wt3 (bobj 25 none 0 0 none 0 0))
              have GLwt11 : Hid (w6.heap.size ≤ wt3.heap.size) := Lib.hid Bwt3.out.size
              clear hK K hHeld bwt11 Bwt3 OAwt3 OBwt3
              generalize wt3.heap.size = gwt11 at OAwt11 OBwt11 KGwt11 GLwt11 ⊢
              generalize wt3.alloc (bobj 25 none 0 0 none 0 0) = wt11 at OAwt11 OBwt11 KGwt11 GLwt11 Bwt11 ⊢
              refine wpAnyH_ready (rs := [6]) (by kernel_rfl) (by simp) ?_
              refine ready_cons (i := 6) (o := ⟨_, _, _, _, _, _⟩) rfl ?_ AllReadyH.nil
              · intro K hK
                refine call_step (f := 20) (args := #[batV A5 n5 c5 M5 m5 d5]) rfl (by kernel_rfl) ?_
                refine (real13_any A5 n5 c5 M5 m5 d5 _ _ wt11 (BT11.out.below Bwt11.out) hm5).mono ?_; rintro r wt12 ⟨Mrwt12, drwt12, rfl, hbr, hl⟩; have hr := hbr.mr; clear hbr
                have bwt12 := Bwt11.out.trans (hl.mono Bwt11.out.size)
                have OAwt12 := Lib.hid (OwnR.below OAwt11.out hl)
                have OBwt12 := Lib.hid (OwnR.below OBwt11.out hl)
                have KGwt12 := Lib.hid (kb_below KGwt11.out hl)
                have RRwt12 := Lib.hid hr
                have Bwt12 := Lib.hid bwt12
                refine ⟨_, rfl, ?_⟩
                refine hK.out _ _ (HS6.out _ bwt12) (fun hHeld => ?_)
                clear hK K hl hr bwt12 Bwt11 OAwt11 OBwt11 KGwt11
                try go_frame
                refine wpAnyH_take (i := 7) (oi := ⟨_, _, _, _, _, _⟩) (v := ?_) rfl (by kernel_rfl) (by kernel_rfl) (by kernel_rfl) (fun _ _ _ h => h) (Or.inl ⟨by rfl, ?_⟩) (by assumption) ?_
                rotate_left
                · intro w hSw; (try dsimp only at hSw); go_simp; try (with_reducible rfl)
                try go_frame
                refine wpAnyH_ready (rs := [8]) (by kernel_rfl) (by simp) ?_
                refine ready_cons (i := 8) (o := ⟨_, _, _, _, _, _⟩) rfl ?_ AllReadyH.nil
                · intro K hK
                  refine Stepping.mk (appS_step tMR (base := w6.heap.size) rfl (.tmp 43) (.tmp 46) rfl rfl rfl OBwt12.out RRwt12.out LB6.out Bwt12.out.size ?_)
                  intro ywt13 wt13 own gr _
                  have bwt13 := grown_base Bwt12.out Bwt12.out.size gr OBwt12.out
                  have OAwt13 := Lib.hid (OwnR.other OAwt12.out gr OBwt12.out (by decide))
                  have KGwt13 := Lib.hid (kept_other KGwt12.out gr OBwt12.out (by decide))
                  obtain ⟨Nwt13, nwt13, cwt13, hv, _, _, _, _⟩ := own.row'
                  subst hv
                  have OBwt13 := Lib.hid own
                  have Bwt13 := Lib.hid bwt13
                  refine hK.out _ _ (HS6.out _ bwt13) (fun hHeld => ?_)
                  clear hK K own gr bwt13 Bwt12 OAwt12 KGwt12 OBwt12 RRwt12
                  try go_frame
                  refine wpAnyH_take (i := 9) (oi := ⟨_, _, _, _, _, _⟩) (v := ?_) rfl (by kernel_rfl) (by kernel_rfl) (by kernel_rfl) (fun _ _ _ h => h) (Or.inl ⟨by rfl, ?_⟩) (by assumption) ?_
                  rotate_left
                  · intro w hSw; (try dsimp only at hSw); go_simp; try (with_reducible rfl)
                  try go_frame
                  refine wpAnyH_ready (rs := [11]) (by kernel_rfl) (by simp) ?_
                  refine ready_cons (i := 11) (o := ⟨_, _, _, _, _, _⟩) rfl ?_ AllReadyH.nil
                  · intro K hK
                    have TW := twin_store Bwt13.out GLwt11.out KGwt13.out OAwt13.out OBwt13.out (by decide) (by decide)
                    obtain ⟨z0, z1⟩ := bobj_cells KGwt13.out
                    have zf0 := frozen_of KGwt13.out 0
                    have zf1 := frozen_of KGwt13.out 1
                    have HTW := Lib.hid TW
                    clear TW
                    constructor
                    go_simp
                    refine hK.out _ _ (HS6.out _ HTW.out.low) (fun hHeld => ?_)
                    clear hK K
                    refine wpAnyH_done (by kernel_rfl) ?_ _
                    go_wp2
                    go_meet
                    exact ⟨_, _, _, _, _, _, _, rfl, HTW.out⟩
          · intro K hK
            refine call_step (f := 20) (args := #[batV A5 n5 c5 M5 m5 d5]) rfl (by kernel_rfl) ?_
            refine (real13_any A5 n5 c5 M5 m5 d5 _ _ wt2 (BT11.out.below Bwt2.out) hm5).mono ?_; rintro r wt15 ⟨Mrwt15, drwt15, rfl, hbr, hl⟩; have hr := hbr.mr; clear hbr
            have bwt15 := Bwt2.out.trans (hl.mono Bwt2.out.size)
            have OAwt15 := Lib.hid (OwnR.below OAwt2.out hl)
            have RRwt15 := Lib.hid hr
            have Bwt15 := Lib.hid bwt15
            refine ⟨_, rfl, ?_⟩
            refine hK.out _ _ (HS6.out _ bwt15) (fun hHeld => ?_)
            clear hK K hl hr bwt15 Bwt2 OAwt2
            try go_frame
            refine wpAnyH_take (i := 7) (oi := ⟨_, _, _, _, _, _⟩) (v := ?_) rfl (by kernel_rfl) (by kernel_rfl) (by kernel_rfl) (fun _ _ _ h => h) (Or.inl ⟨by rfl, ?_⟩) (by assumption) ?_
            rotate_left
            · intro w hSw; (try dsimp only at hSw); go_simp; try (with_reducible rfl)
            try go_frame
            refine wpAnyH_ready (rs := [4, 10]) (by kernel_rfl) (by simp) ?_
            refine ready_cons (i := 4) (o := ⟨_, _, _, _, _, _⟩) rfl ?_ (ready_cons (i := 10) (o := ⟨_, _, _, _, _, _⟩) rfl ?_ AllReadyH.nil)
            · intro K hK
              constructor
              go_simp
              have bwt16 := Bwt15.out.alloc Bwt15.out.size (.cells #[] 45)
              refine hK.out _ _ (HS6.out _ bwt16) (fun hHeld => ?_)
              have Bwt16 := Lib.hid bwt16
              have OAwt16 := Lib.hid (OwnR.alloc OAwt15.out (.cells #[] 45))
              have RRwt16 := Lib.hid (RowR.later RRwt15.out (below_alloc _ (.cells #[] 45)))
              have OBwt16 := Lib.hid (OwnR.empty (R := prec) wt15 45 (base := w6.heap.size) Bwt15.out.size)
              clear hK K hHeld bwt16 Bwt15 OAwt15 RRwt15
              generalize wt15.heap.size = gwt16 at OAwt16 OBwt16 ⊢
              generalize wt15.alloc (.cells #[] 45) = wt16 at OAwt16 OBwt16 RRwt16 Bwt16 ⊢
              refine wpAnyH_ready (rs := [8, 10]) (by kernel_rfl) (by simp) ?_
              refine ready_cons (i := 8) (o := ⟨_, _, _, _, _, _⟩) rfl ?_ (ready_cons (i := 10) (o := ⟨_, _, _, _, _, _⟩) rfl ?_ AllReadyH.nil)
              · intro K hK
                refine Stepping.mk (appS_step tMR (base := w6.heap.size) rfl (.tmp 43) (.tmp 46) rfl rfl rfl OBwt16.out RRwt16.out LB6.out Bwt16.out.size ?_)
                intro ywt17 wt17 own gr _
                have bwt17 := grown_base Bwt16.out Bwt16.out.size gr OBwt16.out
                have OAwt17 := Lib.hid (OwnR.other OAwt16.out gr OBwt16.out (by decide))
                obtain ⟨Nwt17, nwt17, cwt17, hv, _, _, _, _⟩ := own.row'
                subst hv
                have OBwt17 := Lib.hid own
                have Bwt17 := Lib.hid bwt17
                refine hK.out _ _ (HS6.out _ bwt17) (fun hHeld => ?_)
                clear hK K own gr bwt17 Bwt16 OAwt16 OBwt16 RRwt16
                try go_frame
                refine wpAnyH_take (i := 9) (oi := ⟨_, _, _, _, _, _⟩) (v := ?_) rfl (by kernel_rfl) (by kernel_rfl) (by kernel_rfl) (fun _ _ _ h => h) (Or.inl ⟨by rfl, ?_⟩) (by assumption) ?_
                rotate_left
                · intro w hSw; (try dsimp only at hSw); go_simp; try (with_reducible rfl)
                try go_frame
                refine wpAnyH_ready (rs := [10]) (by kernel_rfl) (by simp) ?_
                refine ready_cons (i := 10) (o := ⟨_, _, _, _, _, _⟩) rfl ?_ AllReadyH.nil
                · intro K hK
                  constructor
                  go_simp
                  have bwt18 := Bwt17.out.alloc Bwt17.out.size (bobj 25 none 0 0 none 0 0)
                  refine hK.out _ _ (HS6.out _ bwt18) (fun hHeld => ?_)
                  have Bwt18 := Lib.hid bwt18
                  have OAwt18 := Lib.hid (OwnR.alloc OAwt17.out (bobj 25 none 0 0 none 0 0))
                  have OBwt18 := Lib.hid (OwnR.alloc OBwt17.out (bobj 25 none 0 0 none 0 0))
                  have KGwt18 := Lib.hid (heap_alloc_at wt17 (bobj 25 none 0 0 none 0 0))
                  have GLwt18 : Hid (w6.heap.size ≤ wt17.heap.size) := Lib.hid Bwt17.out.size
                  clear hK K hHeld bwt18 Bwt17 OAwt17 OBwt17
                  generalize wt17.heap.size = gwt18 at OAwt18 OBwt18 KGwt18 GLwt18 ⊢
                  generalize wt17.alloc (bobj 25 none 0 0 none 0 0) = wt18 at OAwt18 OBwt18 KGwt18 GLwt18 Bwt18 ⊢
                  refine wpAnyH_ready (rs := [11]) (by kernel_rfl) (by simp) ?_
                  refine ready_cons (i := 11) (o := ⟨_, _, _, _, _, _⟩) rfl ?_ AllReadyH.nil
                  · intro K hK
                    have TW := twin_store Bwt18.out GLwt18.out KGwt18.out OAwt18.out OBwt18.out (by decide) (by decide)
                    obtain ⟨z0, z1⟩ := bobj_cells KGwt18.out
                    have zf0 := frozen_of KGwt18.out 0
                    have zf1 := frozen_of KGwt18.out 1
                    have HTW := Lib.hid TW
                    clear TW
                    constructor
                    go_simp
                    refine hK.out _ _ (HS6.out _ HTW.out.low) (fun hHeld => ?_)
                    clear hK K
                    refine wpAnyH_done (by kernel_rfl) ?_ _
                    go_wp2
                    go_meet
                    exact ⟨_, _, _, _, _, _, _, rfl, HTW.out⟩
              · intro K hK
                constructor
                go_simp
                have bwt20 := Bwt16.out.alloc Bwt16.out.size (bobj 25 none 0 0 none 0 0)
                refine hK.out _ _ (HS6.out _ bwt20) (fun hHeld => ?_)
                have Bwt20 := Lib.hid bwt20
                have OAwt20 := Lib.hid (OwnR.alloc OAwt16.out (bobj 25 none 0 0 none 0 0))
                have OBwt20 := Lib.hid (OwnR.alloc OBwt16.out (bobj 25 none 0 0 none 0 0))
                have RRwt20 := Lib.hid (RowR.later RRwt16.out (below_alloc _ (bobj 25 none 0 0 none 0 0)))
                have KGwt20 := Lib.hid (heap_alloc_at wt16 (bobj 25 none 0 0 none 0 0))
                have GLwt20 : Hid (w6.heap.size ≤ wt16.heap.size) := Lib.hid Bwt16.out.size
                clear hK K hHeld bwt20 Bwt16 OAwt16 OBwt16 RRwt16
                generalize wt16.heap.size = gwt20 at OAwt20 OBwt20 KGwt20 GLwt20 ⊢
                generalize wt16.alloc (bobj 25 none 0 0 none 0 0) = wt20 at OAwt20 OBwt20 KGwt20 GLwt20 RRwt20 Bwt20 ⊢
                refine wpAnyH_ready (rs := [8]) (by kernel_rfl) (by simp) ?_
                refine ready_cons (i := 8) (o := ⟨_, _, _, _, _, _⟩) rfl ?_ AllReadyH.nil
                · intro K hK
                  refine Stepping.mk (appS_step tMR (base := w6.heap.size) rfl (.tmp 43) (.tmp 46) rfl rfl rfl OBwt20.out RRwt20.out LB6.out Bwt20.out.size ?_)
                  intro ywt21 wt21 own gr _
                  have bwt21 := grown_base Bwt20.out Bwt20.out.size gr OBwt20.out
                  have OAwt21 := Lib.hid (OwnR.other OAwt20.out gr OBwt20.out (by decide))
                  have KGwt21 := Lib.hid (kept_other KGwt20.out gr OBwt20.out (by decide))
                  obtain ⟨Nwt21, nwt21, cwt21, hv, _, _, _, _⟩ := own.row'
                  subst hv
                  have OBwt21 := Lib.hid own
                  have Bwt21 := Lib.hid bwt21
                  refine hK.out _ _ (HS6.out _ bwt21) (fun hHeld => ?_)
                  clear hK K own gr bwt21 Bwt20 OAwt20 KGwt20 OBwt20 RRwt20
                  try go_frame
                  refine wpAnyH_take (i := 9) (oi := ⟨_, _, _, _, _, _⟩) (v := ?_) rfl (by kernel_rfl) (by kernel_rfl) (by kernel_rfl) (fun _ _ _ h => h) (Or.inl ⟨by rfl, ?_⟩) (by assumption) ?_
                  rotate_left
                  · intro w hSw; (try dsimp only at hSw); go_simp; try (with_reducible rfl)
                  try go_frame
                  refine wpAnyH_ready (rs := [11]) (by kernel_rfl) (by simp) ?_
                  refine ready_cons (i := 11) (o := ⟨_, _, _, _, _, _⟩) rfl ?_ AllReadyH.nil
                  · intro K hK
                    have TW := twin_store Bwt21.out GLwt20.out KGwt21.out OAwt21.out OBwt21.out (by decide) (by decide)
                    obtain ⟨z0, z1⟩ := bobj_cells KGwt21.out
                    have zf0 := frozen_of KGwt21.out 0
                    have zf1 := frozen_of KGwt21.out 1
                    have HTW := Lib.hid TW
                    clear TW
                    constructor
                    go_simp
                    refine hK.out _ _ (HS6.out _ HTW.out.low) (fun hHeld => ?_)
                    clear hK K
                    refine wpAnyH_done (by kernel_rfl) ?_ _
                    go_wp2
                    go_meet
                    exact ⟨_, _, _, _, _, _, _, rfl, HTW.out⟩
            · intro K hK
              constructor
              go_simp
              have bwt23 := Bwt15.out.alloc Bwt15.out.size (bobj 25 none 0 0 none 0 0)
              refine hK.out _ _ (HS6.out _ bwt23) (fun hHeld => ?_)
              have Bwt23 := Lib.hid bwt23
              have OAwt23 := Lib.hid (OwnR.alloc OAwt15.out (bobj 25 none 0 0 none 0 0))
              have RRwt23 := Lib.hid (RowR.later RRwt15.out (below_alloc _ (bobj 25 none 0 0 none 0 0)))
              have KGwt23 := Lib.hid (heap_alloc_at wt15 (bobj 25 none 0 0 none 0 0))
              have GLwt23 : Hid (w6.heap.size ≤ wt15.heap.size) := Lib.hid Bwt15.out.size
              clear hK K hHeld bwt23 Bwt15 OAwt15 RRwt15
              generalize wt15.heap.size = gwt23 at OAwt23 KGwt23 GLwt23 ⊢
              generalize wt15.alloc (bobj 25 none 0 0 none 0 0) = wt23 at OAwt23 KGwt23 GLwt23 RRwt23 Bwt23 ⊢
              refine wpAnyH_ready (rs := [4]) (by kernel_rfl) (by simp) ?_
              refine ready_cons (i := 4) (o := ⟨_, _, _, _, _, _⟩) rfl ?_ AllReadyH.nil
              · intro K hK
                constructor
                go_simp
                have bwt24 := Bwt23.out.alloc Bwt23.out.size (.cells #[] 45)
                refine hK.out _ _ (HS6.out _ bwt24) (fun hHeld => ?_)
                have Bwt24 := Lib.hid bwt24
                have OAwt24 := Lib.hid (OwnR.alloc OAwt23.out (.cells #[] 45))
                have KGwt24 := Lib.hid (kb_alloc KGwt23.out (.cells #[] 45))
                have RRwt24 := Lib.hid (RowR.later RRwt23.out (below_alloc _ (.cells #[] 45)))
                have OBwt24 := Lib.hid (OwnR.empty (R := prec) wt23 45 (base := w6.heap.size) Bwt23.out.size)
                clear hK K hHeld bwt24 Bwt23 OAwt23 KGwt23 RRwt23
                generalize wt23.heap.size = gwt24 at OAwt24 OBwt24 KGwt24 GLwt23 ⊢
                generalize wt23.alloc (.cells #[] 45) = wt24 at OAwt24 OBwt24 KGwt24 GLwt23 RRwt24 Bwt24 ⊢
                refine wpAnyH_ready (rs := [8]) (by kernel_rfl) (by simp) ?_
                refine ready_cons (i := 8) (o := ⟨_, _, _, _, _, _⟩) rfl ?_ AllReadyH.nil
                · intro K hK
                  refine Stepping.mk (appS_step tMR (base := w6.heap.size) rfl (.tmp 43) (.tmp 46) rfl rfl rfl OBwt24.out RRwt24.out LB6.out Bwt24.out.size ?_)
                  intro ywt25 wt25 own gr _
                  have bwt25 := grown_base Bwt24.out Bwt24.out.size gr OBwt24.out
                  have OAwt25 := Lib.hid (OwnR.other OAwt24.out gr OBwt24.out (by decide))
                  have KGwt25 := Lib.hid (kept_other KGwt24.out gr OBwt24.out (by decide))
                  obtain ⟨Nwt25, nwt25, cwt25, hv, _, _, _, _⟩ := own.row'
                  subst hv
                  have OBwt25 := Lib.hid own
                  have Bwt25 := Lib.hid bwt25
                  refine hK.out _ _ (HS6.out _ bwt25) (fun hHeld => ?_)
                  clear hK K own gr bwt25 Bwt24 OAwt24 KGwt24 OBwt24 RRwt24
                  try go_frame
                  refine wpAnyH_take (i := 9) (oi := ⟨_, _, _, _, _, _⟩) (v := ?_) rfl (by kernel_rfl) (by kernel_rfl) (by kernel_rfl) (fun _ _ _ h => h) (Or.inl ⟨by rfl, ?_⟩) (by assumption) ?_
                  rotate_left
                  · intro w hSw; (try dsimp only at hSw); go_simp; try (with_reducible rfl)
                  try go_frame
                  refine wpAnyH_ready (rs := [11]) (by kernel_rfl) (by simp) ?_
                  refine ready_cons (i := 11) (o := ⟨_, _, _, _, _, _⟩) rfl ?_ AllReadyH.nil
                  · intro K hK
                    have TW := twin_store Bwt25.out GLwt23.out KGwt25.out OAwt25.out OBwt25.out (by decide) (by decide)
                    obtain ⟨z0, z1⟩ := bobj_cells KGwt25.out
                    have zf0 := frozen_of KGwt25.out 0
                    have zf1 := frozen_of KGwt25.out 1
                    have HTW := Lib.hid TW
                    clear TW
                    constructor
                    go_simp
                    refine hK.out _ _ (HS6.out _ HTW.out.low) (fun hHeld => ?_)
                    clear hK K
                    refine wpAnyH_done (by kernel_rfl) ?_ _
                    go_wp2
                    go_meet
                    exact ⟨_, _, _, _, _, _, _, rfl, HTW.out⟩
          · intro K hK
            constructor
            go_simp
            have bwt27 := Bwt2.out.alloc Bwt2.out.size (bobj 25 none 0 0 none 0 0)
            refine hK.out _ _ (HS6.out _ bwt27) (fun hHeld => ?_)
            have Bwt27 := Lib.hid bwt27
            have OAwt27 := Lib.hid (OwnR.alloc OAwt2.out (bobj 25 none 0 0 none 0 0))
            have KGwt27 := Lib.hid (heap_alloc_at wt2 (bobj 25 none 0 0 none 0 0))
            have GLwt27 : Hid (w6.heap.size ≤ wt2.heap.size) := Lib.hid Bwt2.out.size
            clear hK K hHeld bwt27 Bwt2 OAwt2
            generalize wt2.heap.size = gwt27 at OAwt27 KGwt27 GLwt27 ⊢
            generalize wt2.alloc (bobj 25 none 0 0 none 0 0) = wt27 at OAwt27 KGwt27 GLwt27 Bwt27 ⊢
            refine wpAnyH_ready (rs := [4, 6]) (by kernel_rfl) (by simp) ?_
            refine ready_cons (i := 4) (o := ⟨_, _, _, _, _, _⟩) rfl ?_ (ready_cons (i := 6) (o := ⟨_, _, _, _, _, _⟩) rfl ?_ AllReadyH.nil)
            · intro K hK
              constructor
              go_simp
              have bwt28 := Bwt27.out.alloc Bwt27.out.size (.cells #[] 45)
              refine hK.out _ _ (HS6.out _ bwt28) (fun hHeld => ?_)
              have Bwt28 := Lib.hid bwt28
              have OAwt28 := Lib.hid (OwnR.alloc OAwt27.out (.cells #[] 45))
              have KGwt28 := Lib.hid (kb_alloc KGwt27.out (.cells #[] 45))
              have OBwt28 := Lib.hid (OwnR.empty (R := prec) wt27 45 (base := w6.heap.size) Bwt27.out.size)
              clear hK K hHeld bwt28 Bwt27 OAwt27 KGwt27
              generalize wt27.heap.size = gwt28 at OAwt28 OBwt28 KGwt28 GLwt27 ⊢
              generalize wt27.alloc (.cells #[] 45) = wt28 at OAwt28 OBwt28 KGwt28 GLwt27 Bwt28 ⊢
              refine wpAnyH_ready (rs := [6]) (by kernel_rfl) (by simp) ?_
              refine ready_cons (i := 6) (o := ⟨_, _, _, _, _, _⟩) rfl ?_ AllReadyH.nil
              · intro K hK
                refine call_step (f := 20) (args := #[batV A5 n5 c5 M5 m5 d5]) rfl (by kernel_rfl) ?_
                refine (real13_any A5 n5 c5 M5 m5 d5 _ _ wt28 (BT11.out.below Bwt28.out) hm5).mono ?_; rintro r wt29 ⟨Mrwt29, drwt29, rfl, hbr, hl⟩; have hr := hbr.mr; clear hbr
                have bwt29 := Bwt28.out.trans (hl.mono Bwt28.out.size)
                have OAwt29 := Lib.hid (OwnR.below OAwt28.out hl)
                have OBwt29 := Lib.hid (OwnR.below OBwt28.out hl)
                have KGwt29 := Lib.hid (kb_below KGwt28.out hl)
                have RRwt29 := Lib.hid hr
                have Bwt29 := Lib.hid bwt29
                refine ⟨_, rfl, ?_⟩
                refine hK.out _ _ (HS6.out _ bwt29) (fun hHeld => ?_)
                clear hK K hl hr bwt29 Bwt28 OAwt28 OBwt28 KGwt28
                try go_frame
                refine wpAnyH_take (i := 7) (oi := ⟨_, _, _, _, _, _⟩) (v := ?_) rfl (by kernel_rfl) (by kernel_rfl) (by kernel_rfl) (fun _ _ _ h => h) (Or.inl ⟨by rfl, ?_⟩) (by assumption) ?_
                rotate_left
                · intro w hSw; (try dsimp only at hSw); go_simp; try (with_reducible rfl)
                try go_frame
                refine wpAnyH_ready (rs := [8]) (by kernel_rfl) (by simp) ?_
                refine ready_cons (i := 8) (o := ⟨_, _, _, _, _, _⟩) rfl ?_ AllReadyH.nil
                · intro K hK
                  refine Stepping.mk (appS_step tMR (base := w6.heap.size) rfl (.tmp 43) (.tmp 46) rfl rfl rfl OBwt29.out RRwt29.out LB6.out Bwt29.out.size ?_)
                  intro ywt30 wt30 own gr _
                  have bwt30 := grown_base Bwt29.out Bwt29.out.size gr OBwt29.out
                  have OAwt30 := Lib.hid (OwnR.other OAwt29.out gr OBwt29.out (by decide))
                  have KGwt30 := Lib.hid (kept_other KGwt29.out gr OBwt29.out (by decide))
                  obtain ⟨Nwt30, nwt30, cwt30, hv, _, _, _, _⟩ := own.row'
                  subst hv
                  have OBwt30 := Lib.hid own
                  have Bwt30 := Lib.hid bwt30
                  refine hK.out _ _ (HS6.out _ bwt30) (fun hHeld => ?_)
                  clear hK K own gr bwt30 Bwt29 OAwt29 KGwt29 OBwt29 RRwt29
                  try go_frame
                  refine wpAnyH_take (i := 9) (oi := ⟨_, _, _, _, _, _⟩) (v := ?_) rfl (by kernel_rfl) (by kernel_rfl) (by kernel_rfl) (fun _ _ _ h => h) (Or.inl ⟨by rfl, ?_⟩) (by assumption) ?_
                  rotate_left
                  · intro w hSw; (try dsimp only at hSw); go_simp; try (with_reducible rfl)
                  try go_frame
                  refine wpAnyH_ready (rs := [11]) (by kernel_rfl) (by simp) ?_
                  refine ready_cons (i := 11) (o := ⟨_, _, _, _, _, _⟩) rfl ?_ AllReadyH.nil
                  · intro K hK
                    have TW := twin_store Bwt30.out GLwt27.out KGwt30.out OAwt30.out OBwt30.out (by decide) (by decide)
                    obtain ⟨z0, z1⟩ := bobj_cells KGwt30.out
                    have zf0 := frozen_of KGwt30.out 0
                    have zf1 := frozen_of KGwt30.out 1
                    have HTW := Lib.hid TW
                    clear TW
                    constructor
                    go_simp
                    refine hK.out _ _ (HS6.out _ HTW.out.low) (fun hHeld => ?_)
                    clear hK K
                    refine wpAnyH_done (by kernel_rfl) ?_ _
                    go_wp2
                    go_meet
                    exact ⟨_, _, _, _, _, _, _, rfl, HTW.out⟩
            · intro K hK
              refine call_step (f := 20) (args := #[batV A5 n5 c5 M5 m5 d5]) rfl (by kernel_rfl) ?_
              refine (real13_any A5 n5 c5 M5 m5 d5 _ _ wt27 (BT11.out.below Bwt27.out) hm5).mono ?_; rintro r wt32 ⟨Mrwt32, drwt32, rfl, hbr, hl⟩; have hr := hbr.mr; clear hbr
              have bwt32 := Bwt27.out.trans (hl.mono Bwt27.out.size)
              have OAwt32 := Lib.hid (OwnR.below OAwt27.out hl)
              have KGwt32 := Lib.hid (kb_below KGwt27.out hl)
              have RRwt32 := Lib.hid hr
              have Bwt32 := Lib.hid bwt32
              refine ⟨_, rfl, ?_⟩
              refine hK.out _ _ (HS6.out _ bwt32) (fun hHeld => ?_)
              clear hK K hl hr bwt32 Bwt27 OAwt27 KGwt27
              try go_frame
              refine wpAnyH_take (i := 7) (oi := ⟨_, _, _, _, _, _⟩) (v := ?_) rfl (by kernel_rfl) (by kernel_rfl) (by kernel_rfl) (fun _ _ _ h => h) (Or.inl ⟨by rfl, ?_⟩) (by assumption) ?_
              rotate_left
              · intro w hSw; (try dsimp only at hSw); go_simp; try (with_reducible rfl)
              try go_frame
              refine wpAnyH_ready (rs := [4]) (by kernel_rfl) (by simp) ?_
              refine ready_cons (i := 4) (o := ⟨_, _, _, _, _, _⟩) rfl ?_ AllReadyH.nil
              · intro K hK
                constructor
                go_simp
                have bwt33 := Bwt32.out.alloc Bwt32.out.size (.cells #[] 45)
                refine hK.out _ _ (HS6.out _ bwt33) (fun hHeld => ?_)
                have Bwt33 := Lib.hid bwt33
                have OAwt33 := Lib.hid (OwnR.alloc OAwt32.out (.cells #[] 45))
                have KGwt33 := Lib.hid (kb_alloc KGwt32.out (.cells #[] 45))
                have RRwt33 := Lib.hid (RowR.later RRwt32.out (below_alloc _ (.cells #[] 45)))
                have OBwt33 := Lib.hid (OwnR.empty (R := prec) wt32 45 (base := w6.heap.size) Bwt32.out.size)
                clear hK K hHeld bwt33 Bwt32 OAwt32 KGwt32 RRwt32
                generalize wt32.heap.size = gwt33 at OAwt33 OBwt33 KGwt33 GLwt27 ⊢
                generalize wt32.alloc (.cells #[] 45) = wt33 at OAwt33 OBwt33 KGwt33 GLwt27 RRwt33 Bwt33 ⊢
                refine wpAnyH_ready (rs := [8]) (by kernel_rfl) (by simp) ?_
                refine ready_cons (i := 8) (o := ⟨_, _, _, _, _, _⟩) rfl ?_ AllReadyH.nil
                · intro K hK
                  refine Stepping.mk (appS_step tMR (base := w6.heap.size) rfl (.tmp 43) (.tmp 46) rfl rfl rfl OBwt33.out RRwt33.out LB6.out Bwt33.out.size ?_)
                  intro ywt34 wt34 own gr _
                  have bwt34 := grown_base Bwt33.out Bwt33.out.size gr OBwt33.out
                  have OAwt34 := Lib.hid (OwnR.other OAwt33.out gr OBwt33.out (by decide))
                  have KGwt34 := Lib.hid (kept_other KGwt33.out gr OBwt33.out (by decide))
                  obtain ⟨Nwt34, nwt34, cwt34, hv, _, _, _, _⟩ := own.row'
                  subst hv
                  have OBwt34 := Lib.hid own
                  have Bwt34 := Lib.hid bwt34
                  refine hK.out _ _ (HS6.out _ bwt34) (fun hHeld => ?_)
                  clear hK K own gr bwt34 Bwt33 OAwt33 KGwt33 OBwt33 RRwt33
                  try go_frame
                  refine wpAnyH_take (i := 9) (oi := ⟨_, _, _, _, _, _⟩) (v := ?_) rfl (by kernel_rfl) (by kernel_rfl) (by kernel_rfl) (fun _ _ _ h => h) (Or.inl ⟨by rfl, ?_⟩) (by assumption) ?_
                  rotate_left
                  · intro w hSw; (try dsimp only at hSw); go_simp; try (with_reducible rfl)
                  try go_frame
                  refine wpAnyH_ready (rs := [11]) (by kernel_rfl) (by simp) ?_
                  refine ready_cons (i := 11) (o := ⟨_, _, _, _, _, _⟩) rfl ?_ AllReadyH.nil
                  · intro K hK
                    have TW := twin_store Bwt34.out GLwt27.out KGwt34.out OAwt34.out OBwt34.out (by decide) (by decide)
                    obtain ⟨z0, z1⟩ := bobj_cells KGwt34.out
                    have zf0 := frozen_of KGwt34.out 0
                    have zf1 := frozen_of KGwt34.out 1
                    have HTW := Lib.hid TW
                    clear TW
                    constructor
                    go_simp
                    refine hK.out _ _ (HS6.out _ HTW.out.low) (fun hHeld => ?_)
                    clear hK K
                    refine wpAnyH_done (by kernel_rfl) ?_ _
                    go_wp2
                    go_meet
                    exact ⟨_, _, _, _, _, _, _, rfl, HTW.out⟩
        · intro K hK
          constructor
          go_simp
          have bwt36 := Bwt1.out.alloc Bwt1.out.size (.cells #[] 45)
          refine hK.out _ _ (HS6.out _ bwt36) (fun hHeld => ?_)
          have Bwt36 := Lib.hid bwt36
          have OAwt36 := Lib.hid (OwnR.alloc OAwt1.out (.cells #[] 45))
          have OBwt36 := Lib.hid (OwnR.empty (R := prec) wt1 45 (base := w6.heap.size) Bwt1.out.size)
          clear hK K hHeld bwt36 Bwt1 OAwt1
          generalize wt1.heap.size = gwt36 at OAwt36 OBwt36 ⊢
          generalize wt1.alloc (.cells #[] 45) = wt36 at OAwt36 OBwt36 Bwt36 ⊢
          refine wpAnyH_ready (rs := [3, 10]) (by kernel_rfl) (by simp) ?_
          refine ready_cons (i := 3) (o := ⟨_, _, _, _, _, _⟩) rfl ?_ (ready_cons (i := 10) (o := ⟨_, _, _, _, _, _⟩) rfl ?_ AllReadyH.nil)
          · intro K hK
            refine Stepping.mk (appS_step tI (base := w6.heap.size) rfl (.tmp 39) (.tmp 41) rfl rfl rfl OAwt36.out (BT11.out.below Bwt36.out).ar LA6.out Bwt36.out.size ?_)
            intro ywt37 wt37 own gr _
            have bwt37 := grown_base Bwt36.out Bwt36.out.size gr OAwt36.out
            have OBwt37 := Lib.hid (OwnR.other OBwt36.out gr OAwt36.out (by decide))
            obtain ⟨Nwt37, nwt37, cwt37, hv, _, _, _, _⟩ := own.row'
            subst hv
            have OAwt37 := Lib.hid own
            have Bwt37 := Lib.hid bwt37
            refine hK.out _ _ (HS6.out _ bwt37) (fun hHeld => ?_)
            clear hK K own gr bwt37 Bwt36 OBwt36 OAwt36
            try go_frame
            refine wpAnyH_ready (rs := [6, 10]) (by kernel_rfl) (by simp) ?_
            refine ready_cons (i := 6) (o := ⟨_, _, _, _, _, _⟩) rfl ?_ (ready_cons (i := 10) (o := ⟨_, _, _, _, _, _⟩) rfl ?_ AllReadyH.nil)
            · intro K hK
              refine call_step (f := 20) (args := #[batV A5 n5 c5 M5 m5 d5]) rfl (by kernel_rfl) ?_
              refine (real13_any A5 n5 c5 M5 m5 d5 _ _ wt37 (BT11.out.below Bwt37.out) hm5).mono ?_; rintro r wt38 ⟨Mrwt38, drwt38, rfl, hbr, hl⟩; have hr := hbr.mr; clear hbr
              have bwt38 := Bwt37.out.trans (hl.mono Bwt37.out.size)
              have OAwt38 := Lib.hid (OwnR.below OAwt37.out hl)
              have OBwt38 := Lib.hid (OwnR.below OBwt37.out hl)
              have RRwt38 := Lib.hid hr
              have Bwt38 := Lib.hid bwt38
              refine ⟨_, rfl, ?_⟩
              refine hK.out _ _ (HS6.out _ bwt38) (fun hHeld => ?_)
              clear hK K hl hr bwt38 Bwt37 OAwt37 OBwt37
              try go_frame
              refine wpAnyH_take (i := 7) (oi := ⟨_, _, _, _, _, _⟩) (v := ?_) rfl (by kernel_rfl) (by kernel_rfl) (by kernel_rfl) (fun _ _ _ h => h) (Or.inl ⟨by rfl, ?_⟩) (by assumption) ?_
              rotate_left
              · intro w hSw; (try dsimp only at hSw); go_simp; try (with_reducible rfl)
              try go_frame
              refine wpAnyH_ready (rs := [8, 10]) (by kernel_rfl) (by simp) ?_
              refine ready_cons (i := 8) (o := ⟨_, _, _, _, _, _⟩) rfl ?_ (ready_cons (i := 10) (o := ⟨_, _, _, _, _, _⟩) rfl ?_ AllReadyH.nil)
              · intro K hK
                refine Stepping.mk (appS_step tMR (base := w6.heap.size) rfl (.tmp 43) (.tmp 46) rfl rfl rfl OBwt38.out RRwt38.out LB6.out Bwt38.out.size ?_)
                intro ywt39 wt39 own gr _
                have bwt39 := grown_base Bwt38.out Bwt38.out.size gr OBwt38.out
                have OAwt39 := Lib.hid (OwnR.other OAwt38.out gr OBwt38.out (by decide))
                obtain ⟨Nwt39, nwt39, cwt39, hv, _, _, _, _⟩ := own.row'
                subst hv
                have OBwt39 := Lib.hid own
                have Bwt39 := Lib.hid bwt39
                refine hK.out _ _ (HS6.out _ bwt39) (fun hHeld => ?_)
                clear hK K own gr bwt39 Bwt38 OAwt38 OBwt38 RRwt38
                try go_frame
                refine wpAnyH_take (i := 9) (oi := ⟨_, _, _, _, _, _⟩) (v := ?_) rfl (by kernel_rfl) (by kernel_rfl) (by kernel_rfl) (fun _ _ _ h => h) (Or.inl ⟨by rfl, ?_⟩) (by assumption) ?_
                rotate_left
                · intro w hSw; (try dsimp only at hSw); go_simp; try (with_reducible rfl)
                try go_frame
                refine wpAnyH_ready (rs := [10]) (by kernel_rfl) (by simp) ?_
                refine ready_cons (i := 10) (o := ⟨_, _, _, _, _, _⟩) rfl ?_ AllReadyH.nil
                · intro K hK
                  constructor
                  go_simp
                  have bwt40 := Bwt39.out.alloc Bwt39.out.size (bobj 25 none 0 0 none 0 0)
                  refine hK.out _ _ (HS6.out _ bwt40) (fun hHeld => ?_)
                  have Bwt40 := Lib.hid bwt40
                  have OAwt40 := Lib.hid (OwnR.alloc OAwt39.out (bobj 25 none 0 0 none 0 0))
                  have OBwt40 := Lib.hid (OwnR.alloc OBwt39.out (bobj 25 none 0 0 none 0 0))
                  have KGwt40 := Lib.hid (heap_alloc_at wt39 (bobj 25 none 0 0 none 0 0))
                  have GLwt40 : Hid (w6.heap.size ≤ wt39.heap.size) := Lib.hid Bwt39.out.size
                  clear hK K hHeld bwt40 Bwt39 OAwt39 OBwt39
                  generalize wt39.heap.size = gwt40 at OAwt40 OBwt40 KGwt40 GLwt40 ⊢
                  generalize wt39.alloc (bobj 25 none 0 0 none 0 0) = wt40 at OAwt40 OBwt40 KGwt40 GLwt40 Bwt40 ⊢
                  refine wpAnyH_ready (rs := [11]) (by kernel_rfl) (by simp) ?_
                  refine ready_cons (i := 11) (o := ⟨_, _, _, _, _, _⟩) rfl ?_ AllReadyH.nil
                  · intro K hK
                    have TW := twin_store Bwt40.out GLwt40.out KGwt40.out OAwt40.out OBwt40.out (by decide) (by decide)
                    obtain ⟨z0, z1⟩ := bobj_cells KGwt40.out
                    have zf0 := frozen_of KGwt40.out 0
                    have zf1 := frozen_of KGwt40.out 1
                    have HTW := Lib.hid TW
                    clear TW
                    constructor
                    go_simp
                    refine hK.out _ _ (HS6.out _ HTW.out.low) (fun hHeld => ?_)
                    clear hK K
                    refine wpAnyH_done (by kernel_rfl) ?_ _
                    go_wp2
                    go_meet
                    exact ⟨_, _, _, _, _, _, _, rfl, HTW.out⟩
              · intro K hK
                constructor
                go_simp
                have bwt42 := Bwt38.out.alloc Bwt38.out.size (bobj 25 none 0 0 none 0 0)
                refine hK.out _ _ (HS6.out _ bwt42) (fun hHeld => ?_)
                have Bwt42 := Lib.hid bwt42
                have OAwt42 := Lib.hid (OwnR.alloc OAwt38.out (bobj 25 none 0 0 none 0 0))
                have OBwt42 := Lib.hid (OwnR.alloc OBwt38.out (bobj 25 none 0 0 none 0 0))
                have RRwt42 := Lib.hid (RowR.later RRwt38.out (below_alloc _ (bobj 25 none 0 0 none 0 0)))
                have KGwt42 := Lib.hid (heap_alloc_at wt38 (bobj 25 none 0 0 none 0 0))
                have GLwt42 : Hid (w6.heap.size ≤ wt38.heap.size) := Lib.hid Bwt38.out.size
                clear hK K hHeld bwt42 Bwt38 OAwt38 OBwt38 RRwt38
                generalize wt38.heap.size = gwt42 at OAwt42 OBwt42 KGwt42 GLwt42 ⊢
                generalize wt38.alloc (bobj 25 none 0 0 none 0 0) = wt42 at OAwt42 OBwt42 KGwt42 GLwt42 RRwt42 Bwt42 ⊢
                refine wpAnyH_ready (rs := [8]) (by kernel_rfl) (by simp) ?_
                refine ready_cons (i := 8) (o := ⟨_, _, _, _, _, _⟩) rfl ?_ AllReadyH.nil
                · intro K hK
                  refine Stepping.mk (appS_step tMR (base := w6.heap.size) rfl (.tmp 43) (.tmp 46) rfl rfl rfl OBwt42.out RRwt42.out LB6.out Bwt42.out.size ?_)
                  intro ywt43 wt43 own gr _
                  have bwt43 := grown_base Bwt42.out Bwt42.out.size gr OBwt42.out
                  have OAwt43 := Lib.hid (OwnR.other OAwt42.out gr OBwt42.out (by decide))
                  have KGwt43 := Lib.hid (kept_other KGwt42.out gr OBwt42.out (by decide))
                  obtain ⟨Nwt43, nwt43, cwt43, hv, _, _, _, _⟩ := own.row'
                  subst hv
                  have OBwt43 := Lib.hid own
                  have Bwt43 := Lib.hid bwt43
                  refine hK.out _ _ (HS6.out _ bwt43) (fun hHeld => ?_)
                  clear hK K own gr bwt43 Bwt42 OAwt42 KGwt42 OBwt42 RRwt42
                  try go_frame
                  refine wpAnyH_take (i := 9) (oi := ⟨_, _, _, _, _, _⟩) (v := ?_) rfl (by kernel_rfl) (by kernel_rfl) (by kernel_rfl) (fun _ _ _ h => h) (Or.inl ⟨by rfl, ?_⟩) (by assumption) ?_
                  rotate_left
                  · intro w hSw; (try dsimp only at hSw); go_simp; try (with_reducible rfl)
                  try go_frame
                  refine wpAnyH_ready (rs := [11]) (by kernel_rfl) (by simp) ?_
                  refine ready_cons (i := 11) (o := ⟨_, _, _, _, _, _⟩) rfl ?_ AllReadyH.nil
                  · intro K hK
                    have TW := twin_store Bwt43.out GLwt42.out KGwt43.out OAwt43.out OBwt43.out (by decide) (by decide)
                    obtain ⟨z0, z1⟩ := bobj_cells KGwt43.out
                    have zf0 := frozen_of KGwt43.out 0
                    have zf1 := frozen_of KGwt43.out 1
                    have HTW := Lib.hid TW
                    clear TW
                    constructor
                    go_simp
                    refine hK.out _ _ (HS6.out _ HTW.out.low) (fun hHeld => ?_)
                    clear hK K
                    refine wpAnyH_done (by kernel_rfl) ?_ _
                    go_wp2
                    go_meet
                    exact ⟨_, _, _, _, _, _, _, rfl, HTW.out⟩
            · intro K hK
              constructor
              go_simp
              have bwt45 := Bwt37.out.alloc Bwt37.out.size (bobj 25 none 0 0 none 0 0)
              refine hK.out _ _ (HS6.out _ bwt45) (fun hHeld => ?_)
              have Bwt45 := Lib.hid bwt45
              have OAwt45 := Lib.hid (OwnR.alloc OAwt37.out (bobj 25 none 0 0 none 0 0))
              have OBwt45 := Lib.hid (OwnR.alloc OBwt37.out (bobj 25 none 0 0 none 0 0))
              have KGwt45 := Lib.hid (heap_alloc_at wt37 (bobj 25 none 0 0 none 0 0))
              have GLwt45 : Hid (w6.heap.size ≤ wt37.heap.size) := Lib.hid Bwt37.out.size
              clear hK K hHeld bwt45 Bwt37 OAwt37 OBwt37
              generalize wt37.heap.size = gwt45 at OAwt45 OBwt45 KGwt45 GLwt45 ⊢
              generalize wt37.alloc (bobj 25 none 0 0 none 0 0) = wt45 at OAwt45 OBwt45 KGwt45 GLwt45 Bwt45 ⊢
              refine wpAnyH_ready (rs := [6]) (by kernel_rfl) (by simp) ?_
              refine ready_cons (i := 6) (o := ⟨_, _, _, _, _, _⟩) rfl ?_ AllReadyH.nil
              · intro K hK
                refine call_step (f := 20) (args := #[batV A5 n5 c5 M5 m5 d5]) rfl (by kernel_rfl) ?_
                refine (real13_any A5 n5 c5 M5 m5 d5 _ _ wt45 (BT11.out.below Bwt45.out) hm5).mono ?_; rintro r wt46 ⟨Mrwt46, drwt46, rfl, hbr, hl⟩; have hr := hbr.mr; clear hbr
                have bwt46 := Bwt45.out.trans (hl.mono Bwt45.out.size)
                have OAwt46 := Lib.hid (OwnR.below OAwt45.out hl)
                have OBwt46 := Lib.hid (OwnR.below OBwt45.out hl)
                have KGwt46 := Lib.hid (kb_below KGwt45.out hl)
                have RRwt46 := Lib.hid hr
                have Bwt46 := Lib.hid bwt46
                refine ⟨_, rfl, ?_⟩
                refine hK.out _ _ (HS6.out _ bwt46) (fun hHeld => ?_)
                clear hK K hl hr bwt46 Bwt45 OAwt45 OBwt45 KGwt45
                try go_frame
                refine wpAnyH_take (i := 7) (oi := ⟨_, _, _, _, _, _⟩) (v := ?_) rfl (by kernel_rfl) (by kernel_rfl) (by kernel_rfl) (fun _ _ _ h => h) (Or.inl ⟨by rfl, ?_⟩) (by assumption) ?_
                rotate_left
                · intro w hSw; (try dsimp only at hSw); go_simp; try (with_reducible rfl)
                try go_frame
                refine wpAnyH_ready (rs := [8]) (by kernel_rfl) (by simp) ?_
                refine ready_cons (i := 8) (o := ⟨_, _, _, _, _, _⟩) rfl ?_ AllReadyH.nil
                · intro K hK
                  refine Stepping.mk (appS_step tMR (base := w6.heap.size) rfl (.tmp 43) (.tmp 46) rfl rfl rfl OBwt46.out RRwt46.out LB6.out Bwt46.out.size ?_)
                  intro ywt47 wt47 own gr _
                  have bwt47 := grown_base Bwt46.out Bwt46.out.size gr OBwt46.out
                  have OAwt47 := Lib.hid (OwnR.other OAwt46.out gr OBwt46.out (by decide))
                  have KGwt47 := Lib.hid (kept_other KGwt46.out gr OBwt46.out (by decide))
                  obtain ⟨Nwt47, nwt47, cwt47, hv, _, _, _, _⟩ := own.row'
                  subst hv
                  have OBwt47 := Lib.hid own
                  have Bwt47 := Lib.hid bwt47
                  refine hK.out _ _ (HS6.out _ bwt47) (fun hHeld => ?_)
                  clear hK K own gr bwt47 Bwt46 OAwt46 KGwt46 OBwt46 RRwt46
                  try go_frame
                  refine wpAnyH_take (i := 9) (oi := ⟨_, _, _, _, _, _⟩) (v := ?_) rfl (by kernel_rfl) (by kernel_rfl) (by kernel_rfl) (fun _ _ _ h => h) (Or.inl ⟨by rfl, ?_⟩) (by assumption) ?_
                  rotate_left
                  · intro w hSw; (try dsimp only at hSw); go_simp; try (with_reducible rfl)
                  try go_frame
                  refine wpAnyH_ready (rs := [11]) (by kernel_rfl) (by simp) ?_
                  refine ready_cons (i := 11) (o := ⟨_, _, _, _, _, _⟩) rfl ?_ AllReadyH.nil
                  · intro K hK
                    have TW := twin_store Bwt47.out GLwt45.out KGwt47.out OAwt47.out OBwt47.out (by decide) (by decide)
                    obtain ⟨z0, z1⟩ := bobj_cells KGwt47.out
                    have zf0 := frozen_of KGwt47.out 0
                    have zf1 := frozen_of KGwt47.out 1
                    have HTW := Lib.hid TW
                    clear TW
                    constructor
                    go_simp
                    refine hK.out _ _ (HS6.out _ HTW.out.low) (fun hHeld => ?_)
                    clear hK K
                    refine wpAnyH_done (by kernel_rfl) ?_ _
                    go_wp2
                    go_meet
                    exact ⟨_, _, _, _, _, _, _, rfl, HTW.out⟩
          · intro K hK
            constructor
            go_simp
            have bwt49 := Bwt36.out.alloc Bwt36.out.size (bobj 25 none 0 0 none 0 0)
            refine hK.out _ _ (HS6.out _ bwt49) (fun hHeld => ?_)
            have Bwt49 := Lib.hid bwt49
            have OAwt49 := Lib.hid (OwnR.alloc OAwt36.out (bobj 25 none 0 0 none 0 0))
            have OBwt49 := Lib.hid (OwnR.alloc OBwt36.out (bobj 25 none 0 0 none 0 0))
            have KGwt49 := Lib.hid (heap_alloc_at wt36 (bobj 25 none 0 0 none 0 0))
            have GLwt49 : Hid (w6.heap.size ≤ wt36.heap.size) := Lib.hid Bwt36.out.size
            clear hK K hHeld bwt49 Bwt36 OAwt36 OBwt36
            generalize wt36.heap.size = gwt49 at OAwt49 OBwt49 KGwt49 GLwt49 ⊢
            generalize wt36.alloc (bobj 25 none 0 0 none 0 0) = wt49 at OAwt49 OBwt49 KGwt49 GLwt49 Bwt49 ⊢
            refine wpAnyH_ready (rs := [3]) (by kernel_rfl) (by simp) ?_
            refine ready_cons (i := 3) (o := ⟨_, _, _, _, _, _⟩) rfl ?_ AllReadyH.nil
            · intro K hK
              refine Stepping.mk (appS_step tI (base := w6.heap.size) rfl (.tmp 39) (.tmp 41) rfl rfl rfl OAwt49.out (BT11.out.below Bwt49.out).ar LA6.out Bwt49.out.size ?_)
              intro ywt50 wt50 own gr _
              have bwt50 := grown_base Bwt49.out Bwt49.out.size gr OAwt49.out
              have OBwt50 := Lib.hid (OwnR.other OBwt49.out gr OAwt49.out (by decide))
              have KGwt50 := Lib.hid (kept_other KGwt49.out gr OAwt49.out (by decide))
              obtain ⟨Nwt50, nwt50, cwt50, hv, _, _, _, _⟩ := own.row'
              subst hv
              have OAwt50 := Lib.hid own
              have Bwt50 := Lib.hid bwt50
              refine hK.out _ _ (HS6.out _ bwt50) (fun hHeld => ?_)
              clear hK K own gr bwt50 Bwt49 OBwt49 KGwt49 OAwt49
              try go_frame
              refine wpAnyH_ready (rs := [6]) (by kernel_rfl) (by simp) ?_
              refine ready_cons (i := 6) (o := ⟨_, _, _, _, _, _⟩) rfl ?_ AllReadyH.nil
              · intro K hK
                refine call_step (f := 20) (args := #[batV A5 n5 c5 M5 m5 d5]) rfl (by kernel_rfl) ?_
                refine (real13_any A5 n5 c5 M5 m5 d5 _ _ wt50 (BT11.out.below Bwt50.out) hm5).mono ?_; rintro r wt51 ⟨Mrwt51, drwt51, rfl, hbr, hl⟩; have hr := hbr.mr; clear hbr
                have bwt51 := Bwt50.out.trans (hl.mono Bwt50.out.size)
                have OAwt51 := Lib.hid (OwnR.below OAwt50.out hl)
                have OBwt51 := Lib.hid (OwnR.below OBwt50.out hl)
                have KGwt51 := Lib.hid (kb_below KGwt50.out hl)
                have RRwt51 := Lib.hid hr
                have Bwt51 := Lib.hid bwt51
                refine ⟨_, rfl, ?_⟩
                refine hK.out _ _ (HS6.out _ bwt51) (fun hHeld => ?_)
                clear hK K hl hr bwt51 Bwt50 OAwt50 OBwt50 KGwt50
                try go_frame
                refine wpAnyH_take (i := 7) (oi := ⟨_, _, _, _, _, _⟩) (v := ?_) rfl (by kernel_rfl) (by kernel_rfl) (by kernel_rfl) (fun _ _ _ h => h) (Or.inl ⟨by rfl, ?_⟩) (by assumption) ?_
                rotate_left
                · intro w hSw; (try dsimp only at hSw); go_simp; try (with_reducible rfl)
                try go_frame
                refine wpAnyH_ready (rs := [8]) (by kernel_rfl) (by simp) ?_
                refine ready_cons (i := 8) (o := ⟨_, _, _, _, _, _⟩) rfl ?_ AllReadyH.nil
                · intro K hK
                  refine Stepping.mk (appS_step tMR (base := w6.heap.size) rfl (.tmp 43) (.tmp 46) rfl rfl rfl OBwt51.out RRwt51.out LB6.out Bwt51.out.size ?_)
                  intro ywt52 wt52 own gr _
                  have bwt52 := grown_base Bwt51.out Bwt51.out.size gr OBwt51.out
                  have OAwt52 := Lib.hid (OwnR.other OAwt51.out gr OBwt51.out (by decide))
                  have KGwt52 := Lib.hid (kept_other KGwt51.out gr OBwt51.out (by decide))
                  obtain ⟨Nwt52, nwt52, cwt52, hv, _, _, _, _⟩ := own.row'
                  subst hv
                  have OBwt52 := Lib.hid own
                  have Bwt52 := Lib.hid bwt52
                  refine hK.out _ _ (HS6.out _ bwt52) (fun hHeld => ?_)
                  clear hK K own gr bwt52 Bwt51 OAwt51 KGwt51 OBwt51 RRwt51
                  try go_frame
                  refine wpAnyH_take (i := 9) (oi := ⟨_, _, _, _, _, _⟩) (v := ?_) rfl (by kernel_rfl) (by kernel_rfl) (by kernel_rfl) (fun _ _ _ h => h) (Or.inl ⟨by rfl, ?_⟩) (by assumption) ?_
                  rotate_left
                  · intro w hSw; (try dsimp only at hSw); go_simp; try (with_reducible rfl)
                  try go_frame
                  refine wpAnyH_ready (rs := [11]) (by kernel_rfl) (by simp) ?_
                  refine ready_cons (i := 11) (o := ⟨_, _, _, _, _, _⟩) rfl ?_ AllReadyH.nil
                  · intro K hK
                    have TW := twin_store Bwt52.out GLwt49.out KGwt52.out OAwt52.out OBwt52.out (by decide) (by decide)
                    obtain ⟨z0, z1⟩ := bobj_cells KGwt52.out
                    have zf0 := frozen_of KGwt52.out 0
                    have zf1 := frozen_of KGwt52.out 1
                    have HTW := Lib.hid TW
                    clear TW
                    constructor
                    go_simp
                    refine hK.out _ _ (HS6.out _ HTW.out.low) (fun hHeld => ?_)
                    clear hK K
                    refine wpAnyH_done (by kernel_rfl) ?_ _
                    go_wp2
                    go_meet
                    exact ⟨_, _, _, _, _, _, _, rfl, HTW.out⟩
        · intro K hK
          constructor
          go_simp
          have bwt54 := Bwt1.out.alloc Bwt1.out.size (bobj 25 none 0 0 none 0 0)
          refine hK.out _ _ (HS6.out _ bwt54) (fun hHeld => ?_)
          have Bwt54 := Lib.hid bwt54
          have OAwt54 := Lib.hid (OwnR.alloc OAwt1.out (bobj 25 none 0 0 none 0 0))
          have KGwt54 := Lib.hid (heap_alloc_at wt1 (bobj 25 none 0 0 none 0 0))
          have GLwt54 : Hid (w6.heap.size ≤ wt1.heap.size) := Lib.hid Bwt1.out.size
          clear hK K hHeld bwt54 Bwt1 OAwt1
          generalize wt1.heap.size = gwt54 at OAwt54 KGwt54 GLwt54 ⊢
          generalize wt1.alloc (bobj 25 none 0 0 none 0 0) = wt54 at OAwt54 KGwt54 GLwt54 Bwt54 ⊢
          refine wpAnyH_ready (rs := [3, 4]) (by kernel_rfl) (by simp) ?_
          refine ready_cons (i := 3) (o := ⟨_, _, _, _, _, _⟩) rfl ?_ (ready_cons (i := 4) (o := ⟨_, _, _, _, _, _⟩) rfl ?_ AllReadyH.nil)
          · intro K hK
            refine Stepping.mk (appS_step tI (base := w6.heap.size) rfl (.tmp 39) (.tmp 41) rfl rfl rfl OAwt54.out (BT11.out.below Bwt54.out).ar LA6.out Bwt54.out.size ?_)
            intro ywt55 wt55 own gr _
            have bwt55 := grown_base Bwt54.out Bwt54.out.size gr OAwt54.out
            have KGwt55 := Lib.hid (kept_other KGwt54.out gr OAwt54.out (by decide))
            obtain ⟨Nwt55, nwt55, cwt55, hv, _, _, _, _⟩ := own.row'
            subst hv
            have OAwt55 := Lib.hid own
            have Bwt55 := Lib.hid bwt55
            refine hK.out _ _ (HS6.out _ bwt55) (fun hHeld => ?_)
            clear hK K own gr bwt55 Bwt54 KGwt54 OAwt54
            try go_frame
            refine wpAnyH_ready (rs := [4, 6]) (by kernel_rfl) (by simp) ?_
            refine ready_cons (i := 4) (o := ⟨_, _, _, _, _, _⟩) rfl ?_ (ready_cons (i := 6) (o := ⟨_, _, _, _, _, _⟩) rfl ?_ AllReadyH.nil)
            · intro K hK
              constructor
              go_simp
              have bwt56 := Bwt55.out.alloc Bwt55.out.size (.cells #[] 45)
              refine hK.out _ _ (HS6.out _ bwt56) (fun hHeld => ?_)
              have Bwt56 := Lib.hid bwt56
              have OAwt56 := Lib.hid (OwnR.alloc OAwt55.out (.cells #[] 45))
              have KGwt56 := Lib.hid (kb_alloc KGwt55.out (.cells #[] 45))
              have OBwt56 := Lib.hid (OwnR.empty (R := prec) wt55 45 (base := w6.heap.size) Bwt55.out.size)
              clear hK K hHeld bwt56 Bwt55 OAwt55 KGwt55
              generalize wt55.heap.size = gwt56 at OAwt56 OBwt56 KGwt56 GLwt54 ⊢
              generalize wt55.alloc (.cells #[] 45) = wt56 at OAwt56 OBwt56 KGwt56 GLwt54 Bwt56 ⊢
              refine wpAnyH_ready (rs := [6]) (by kernel_rfl) (by simp) ?_
              refine ready_cons (i := 6) (o := ⟨_, _, _, _, _, _⟩) rfl ?_ AllReadyH.nil
              · intro K hK
                refine call_step (f := 20) (args := #[batV A5 n5 c5 M5 m5 d5]) rfl (by kernel_rfl) ?_
                refine (real13_any A5 n5 c5 M5 m5 d5 _ _ wt56 (BT11.out.below Bwt56.out) hm5).mono ?_; rintro r wt57 ⟨Mrwt57, drwt57, rfl, hbr, hl⟩; have hr := hbr.mr; clear hbr
                have bwt57 := Bwt56.out.trans (hl.mono Bwt56.out.size)
                have OAwt57 := Lib.hid (OwnR.below OAwt56.out hl)
                have OBwt57 := Lib.hid (OwnR.below OBwt56.out hl)
                have KGwt57 := Lib.hid (kb_below KGwt56.out hl)
                have RRwt57 := Lib.hid hr
                have Bwt57 := Lib.hid bwt57
                refine ⟨_, rfl, ?_⟩
                refine hK.out _ _ (HS6.out _ bwt57) (fun hHeld => ?_)
                clear hK K hl hr bwt57 Bwt56 OAwt56 OBwt56 KGwt56
                try go_frame
                refine wpAnyH_take (i := 7) (oi := ⟨_, _, _, _, _, _⟩) (v := ?_) rfl (by kernel_rfl) (by kernel_rfl) (by kernel_rfl) (fun _ _ _ h => h) (Or.inl ⟨by rfl, ?_⟩) (by assumption) ?_
                rotate_left
                · intro w hSw; (try dsimp only at hSw); go_simp; try (with_reducible rfl)
                try go_frame
                refine wpAnyH_ready (rs := [8]) (by kernel_rfl) (by simp) ?_
                refine ready_cons (i := 8) (o := ⟨_, _, _, _, _, _⟩) rfl ?_ AllReadyH.nil
                · intro K hK
                  refine Stepping.mk (appS_step tMR (base := w6.heap.size) rfl (.tmp 43) (.tmp 46) rfl rfl rfl OBwt57.out RRwt57.out LB6.out Bwt57.out.size ?_)
                  intro ywt58 wt58 own gr _
                  have bwt58 := grown_base Bwt57.out Bwt57.out.size gr OBwt57.out
                  have OAwt58 := Lib.hid (OwnR.other OAwt57.out gr OBwt57.out (by decide))
                  have KGwt58 := Lib.hid (kept_other KGwt57.out gr OBwt57.out (by decide))
                  obtain ⟨Nwt58, nwt58, cwt58, hv, _, _, _, _⟩ := own.row'
                  subst hv
                  have OBwt58 := Lib.hid own
                  have Bwt58 := Lib.hid bwt58
                  refine hK.out _ _ (HS6.out _ bwt58) (fun hHeld => ?_)
                  clear hK K own gr bwt58 Bwt57 OAwt57 KGwt57 OBwt57 RRwt57
                  try go_frame
                  refine wpAnyH_take (i := 9) (oi := ⟨_, _, _, _, _, _⟩) (v := ?_) rfl (by kernel_rfl) (by kernel_rfl) (by kernel_rfl) (fun _ _ _ h => h) (Or.inl ⟨by rfl, ?_⟩) (by assumption) ?_
                  rotate_left
                  · intro w hSw; (try dsimp only at hSw); go_simp; try (with_reducible rfl)
                  try go_frame
                  refine wpAnyH_ready (rs := [11]) (by kernel_rfl) (by simp) ?_
                  refine ready_cons (i := 11) (o := ⟨_, _, _, _, _, _⟩) rfl ?_ AllReadyH.nil
                  · intro K hK
                    have TW := twin_store Bwt58.out GLwt54.out KGwt58.out OAwt58.out OBwt58.out (by decide) (by decide)
                    obtain ⟨z0, z1⟩ := bobj_cells KGwt58.out
                    have zf0 := frozen_of KGwt58.out 0
                    have zf1 := frozen_of KGwt58.out 1
                    have HTW := Lib.hid TW
                    clear TW
                    constructor
                    go_simp
                    refine hK.out _ _ (HS6.out _ HTW.out.low) (fun hHeld => ?_)
                    clear hK K
                    refine wpAnyH_done (by kernel_rfl) ?_ _
                    go_wp2
                    go_meet
                    exact ⟨_, _, _, _, _, _, _, rfl, HTW.out⟩
            · intro K hK
              refine call_step (f := 20) (args := #[batV A5 n5 c5 M5 m5 d5]) rfl (by kernel_rfl) ?_
              refine (real13_any A5 n5 c5 M5 m5 d5 _ _ wt55 (BT11.out.below Bwt55.out) hm5).mono ?_; rintro r wt60 ⟨Mrwt60, drwt60, rfl, hbr, hl⟩; have hr := hbr.mr; clear hbr
              have bwt60 := Bwt55.out.trans (hl.mono Bwt55.out.size)
              have OAwt60 := Lib.hid (OwnR.below OAwt55.out hl)
              have KGwt60 := Lib.hid (kb_below KGwt55.out hl)
              have RRwt60 := Lib.hid hr
              have Bwt60 := Lib.hid bwt60
              refine ⟨_, rfl, ?_⟩
              refine hK.out _ _ (HS6.out _ bwt60) (fun hHeld => ?_)
              clear hK K hl hr bwt60 Bwt55 OAwt55 KGwt55
              try go_frame
              refine wpAnyH_take (i := 7) (oi := ⟨_, _, _, _, _, _⟩) (v := ?_) rfl (by kernel_rfl) (by kernel_rfl) (by kernel_rfl) (fun _ _ _ h => h) (Or.inl ⟨by rfl, ?_⟩) (by assumption) ?_
              rotate_left
              · intro w hSw; (try dsimp only at hSw); go_simp; try (with_reducible rfl)
              try go_frame
              refine wpAnyH_ready (rs := [4]) (by kernel_rfl) (by simp) ?_
              refine ready_cons (i := 4) (o := ⟨_, _, _, _, _, _⟩) rfl ?_ AllReadyH.nil
              · intro K hK
                constructor
                go_simp
                have bwt61 := Bwt60.out.alloc Bwt60.out.size (.cells #[] 45)
                refine hK.out _ _ (HS6.out _ bwt61) (fun hHeld => ?_)
                have Bwt61 := Lib.hid bwt61
                have OAwt61 := Lib.hid (OwnR.alloc OAwt60.out (.cells #[] 45))
                have KGwt61 := Lib.hid (kb_alloc KGwt60.out (.cells #[] 45))
                have RRwt61 := Lib.hid (RowR.later RRwt60.out (below_alloc _ (.cells #[] 45)))
                have OBwt61 := Lib.hid (OwnR.empty (R := prec) wt60 45 (base := w6.heap.size) Bwt60.out.size)
                clear hK K hHeld bwt61 Bwt60 OAwt60 KGwt60 RRwt60
                generalize wt60.heap.size = gwt61 at OAwt61 OBwt61 KGwt61 GLwt54 ⊢
                generalize wt60.alloc (.cells #[] 45) = wt61 at OAwt61 OBwt61 KGwt61 GLwt54 RRwt61 Bwt61 ⊢
                refine wpAnyH_ready (rs := [8]) (by kernel_rfl) (by simp) ?_
                refine ready_cons (i := 8) (o := ⟨_, _, _, _, _, _⟩) rfl ?_ AllReadyH.nil
                · intro K hK
                  refine Stepping.mk (appS_step tMR (base := w6.heap.size) rfl (.tmp 43) (.tmp 46) rfl rfl rfl OBwt61.out RRwt61.out LB6.out Bwt61.out.size ?_)
                  intro ywt62 wt62 own gr _
                  have bwt62 := grown_base Bwt61.out Bwt61.out.size gr OBwt61.out
                  have OAwt62 := Lib.hid (OwnR.other OAwt61.out gr OBwt61.out (by decide))
                  have KGwt62 := Lib.hid (kept_other KGwt61.out gr OBwt61.out (by decide))
                  obtain ⟨Nwt62, nwt62, cwt62, hv, _, _, _, _⟩ := own.row'
                  subst hv
                  have OBwt62 := Lib.hid own
                  have Bwt62 := Lib.hid bwt62
                  refine hK.out _ _ (HS6.out _ bwt62) (fun hHeld => ?_)
                  clear hK K own gr bwt62 Bwt61 OAwt61 KGwt61 OBwt61 RRwt61
                  try go_frame
                  refine wpAnyH_take (i := 9) (oi := ⟨_, _, _, _, _, _⟩) (v := ?_) rfl (by kernel_rfl) (by kernel_rfl) (by kernel_rfl) (fun _ _ _ h => h) (Or.inl ⟨by rfl, ?_⟩) (by assumption) ?_
                  rotate_left
                  · intro w hSw; (try dsimp only at hSw); go_simp; try (with_reducible rfl)
                  try go_frame
                  refine wpAnyH_ready (rs := [11]) (by kernel_rfl) (by simp) ?_
                  refine ready_cons (i := 11) (o := ⟨_, _, _, _, _, _⟩) rfl ?_ AllReadyH.nil
                  · intro K hK
                    have TW := twin_store Bwt62.out GLwt54.out KGwt62.out OAwt62.out OBwt62.out (by decide) (by decide)
                    obtain ⟨z0, z1⟩ := bobj_cells KGwt62.out
                    have zf0 := frozen_of KGwt62.out 0
                    have zf1 := frozen_of KGwt62.out 1
                    have HTW := Lib.hid TW
                    clear TW
                    constructor
                    go_simp
                    refine hK.out _ _ (HS6.out _ HTW.out.low) (fun hHeld => ?_)
                    clear hK K
                    refine wpAnyH_done (by kernel_rfl) ?_ _
                    go_wp2
                    go_meet
                    exact ⟨_, _, _, _, _, _, _, rfl, HTW.out⟩
          · intro K hK
            constructor
            go_simp
            have bwt64 := Bwt54.out.alloc Bwt54.out.size (.cells #[] 45)
            refine hK.out _ _ (HS6.out _ bwt64) (fun hHeld => ?_)
            have Bwt64 := Lib.hid bwt64
            have OAwt64 := Lib.hid (OwnR.alloc OAwt54.out (.cells #[] 45))
            have KGwt64 := Lib.hid (kb_alloc KGwt54.out (.cells #[] 45))
            have OBwt64 := Lib.hid (OwnR.empty (R := prec) wt54 45 (base := w6.heap.size) Bwt54.out.size)
            clear hK K hHeld bwt64 Bwt54 OAwt54 KGwt54
            generalize wt54.heap.size = gwt64 at OAwt64 OBwt64 KGwt64 GLwt54 ⊢
            generalize wt54.alloc (.cells #[] 45) = wt64 at OAwt64 OBwt64 KGwt64 GLwt54 Bwt64 ⊢
            refine wpAnyH_ready (rs := [3]) (by kernel_rfl) (by simp) ?_
            refine ready_cons (i := 3) (o := ⟨_, _, _, _, _, _⟩) rfl ?_ AllReadyH.nil
            · intro K hK
              refine Stepping.mk (appS_step tI (base := w6.heap.size) rfl (.tmp 39) (.tmp 41) rfl rfl rfl OAwt64.out (BT11.out.below Bwt64.out).ar LA6.out Bwt64.out.size ?_)
              intro ywt65 wt65 own gr _
              have bwt65 := grown_base Bwt64.out Bwt64.out.size gr OAwt64.out
              have OBwt65 := Lib.hid (OwnR.other OBwt64.out gr OAwt64.out (by decide))
              have KGwt65 := Lib.hid (kept_other KGwt64.out gr OAwt64.out (by decide))
              obtain ⟨Nwt65, nwt65, cwt65, hv, _, _, _, _⟩ := own.row'
              subst hv
              have OAwt65 := Lib.hid own
              have Bwt65 := Lib.hid bwt65
              refine hK.out _ _ (HS6.out _ bwt65) (fun hHeld => ?_)
              clear hK K own gr bwt65 Bwt64 OBwt64 KGwt64 OAwt64
              try go_frame
              refine wpAnyH_ready (rs := [6]) (by kernel_rfl) (by simp) ?_
              refine ready_cons (i := 6) (o := ⟨_, _, _, _, _, _⟩) rfl ?_ AllReadyH.nil
              · intro K hK
                refine call_step (f := 20) (args := #[batV A5 n5 c5 M5 m5 d5]) rfl (by kernel_rfl) ?_
                refine (real13_any A5 n5 c5 M5 m5 d5 _ _ wt65 (BT11.out.below Bwt65.out) hm5).mono ?_; rintro r wt66 ⟨Mrwt66, drwt66, rfl, hbr, hl⟩; have hr := hbr.mr; clear hbr
                have bwt66 := Bwt65.out.trans (hl.mono Bwt65.out.size)
                have OAwt66 := Lib.hid (OwnR.below OAwt65.out hl)
                have OBwt66 := Lib.hid (OwnR.below OBwt65.out hl)
                have KGwt66 := Lib.hid (kb_below KGwt65.out hl)
                have RRwt66 := Lib.hid hr
                have Bwt66 := Lib.hid bwt66
                refine ⟨_, rfl, ?_⟩
                refine hK.out _ _ (HS6.out _ bwt66) (fun hHeld => ?_)
                clear hK K hl hr bwt66 Bwt65 OAwt65 OBwt65 KGwt65
                try go_frame
                refine wpAnyH_take (i := 7) (oi := ⟨_, _, _, _, _, _⟩) (v := ?_) rfl (by kernel_rfl) (by kernel_rfl) (by kernel_rfl) (fun _ _ _ h => h) (Or.inl ⟨by rfl, ?_⟩) (by assumption) ?_
                rotate_left
                · intro w hSw; (try dsimp only at hSw); go_simp; try (with_reducible rfl)
                try go_frame
                refine wpAnyH_ready (rs := [8]) (by kernel_rfl) (by simp) ?_
                refine ready_cons (i := 8) (o := ⟨_, _, _, _, _, _⟩) rfl ?_ AllReadyH.nil
                · intro K hK
                  refine Stepping.mk (appS_step tMR (base := w6.heap.size) rfl (.tmp 43) (.tmp 46) rfl rfl rfl OBwt66.out RRwt66.out LB6.out Bwt66.out.size ?_)
                  intro ywt67 wt67 own gr _
                  have bwt67 := grown_base Bwt66.out Bwt66.out.size gr OBwt66.out
                  have OAwt67 := Lib.hid (OwnR.other OAwt66.out gr OBwt66.out (by decide))
                  have KGwt67 := Lib.hid (kept_other KGwt66.out gr OBwt66.out (by decide))
                  obtain ⟨Nwt67, nwt67, cwt67, hv, _, _, _, _⟩ := own.row'
                  subst hv
                  have OBwt67 := Lib.hid own
                  have Bwt67 := Lib.hid bwt67
                  refine hK.out _ _ (HS6.out _ bwt67) (fun hHeld => ?_)
                  clear hK K own gr bwt67 Bwt66 OAwt66 KGwt66 OBwt66 RRwt66
                  try go_frame
                  refine wpAnyH_take (i := 9) (oi := ⟨_, _, _, _, _, _⟩) (v := ?_) rfl (by kernel_rfl) (by kernel_rfl) (by kernel_rfl) (fun _ _ _ h => h) (Or.inl ⟨by rfl, ?_⟩) (by assumption) ?_
                  rotate_left
                  · intro w hSw; (try dsimp only at hSw); go_simp; try (with_reducible rfl)
                  try go_frame
                  refine wpAnyH_ready (rs := [11]) (by kernel_rfl) (by simp) ?_
                  refine ready_cons (i := 11) (o := ⟨_, _, _, _, _, _⟩) rfl ?_ AllReadyH.nil
                  · intro K hK
                    have TW := twin_store Bwt67.out GLwt54.out KGwt67.out OAwt67.out OBwt67.out (by decide) (by decide)
                    obtain ⟨z0, z1⟩ := bobj_cells KGwt67.out
                    have zf0 := frozen_of KGwt67.out 0
                    have zf1 := frozen_of KGwt67.out 1
                    have HTW := Lib.hid TW
                    clear TW
                    constructor
                    go_simp
                    refine hK.out _ _ (HS6.out _ HTW.out.low) (fun hHeld => ?_)
                    clear hK K
                    refine wpAnyH_done (by kernel_rfl) ?_ _
                    go_wp2
                    go_meet
                    exact ⟨_, _, _, _, _, _, _, rfl, HTW.out⟩
      · intro K hK
        constructor
        go_simp
        have bwt69 := Bwt0.out.alloc Bwt0.out.size (.cells #[] 45)
        refine hK.out _ _ (HS6.out _ bwt69) (fun hHeld => ?_)
        have Bwt69 := Lib.hid bwt69
        have OBwt69 := Lib.hid (OwnR.empty (R := prec) wt0 45 (base := w6.heap.size) Bwt0.out.size)
        clear hK K hHeld bwt69 Bwt0 
        generalize wt0.heap.size = gwt69 at OBwt69 ⊢
        generalize wt0.alloc (.cells #[] 45) = wt69 at OBwt69 Bwt69 ⊢
        refine wpAnyH_ready (rs := [0, 10]) (by kernel_rfl) (by simp) ?_
        refine ready_cons (i := 0) (o := ⟨_, _, _, _, _, _⟩) rfl ?_ (ready_cons (i := 10) (o := ⟨_, _, _, _, _, _⟩) rfl ?_ AllReadyH.nil)
        · intro K hK
          constructor
          go_simp
          have bwt70 := Bwt69.out.alloc Bwt69.out.size (.cells #[] 3)
          refine hK.out _ _ (HS6.out _ bwt70) (fun hHeld => ?_)
          have Bwt70 := Lib.hid bwt70
          have OBwt70 := Lib.hid (OwnR.alloc OBwt69.out (.cells #[] 3))
          have OAwt70 := Lib.hid (OwnR.empty (R := irec) wt69 3 (base := w6.heap.size) Bwt69.out.size)
          clear hK K hHeld bwt70 Bwt69 OBwt69
          generalize wt69.heap.size = gwt70 at OAwt70 OBwt70 ⊢
          generalize wt69.alloc (.cells #[] 3) = wt70 at OAwt70 OBwt70 Bwt70 ⊢
          refine wpAnyH_ready (rs := [3, 10]) (by kernel_rfl) (by simp) ?_
          refine ready_cons (i := 3) (o := ⟨_, _, _, _, _, _⟩) rfl ?_ (ready_cons (i := 10) (o := ⟨_, _, _, _, _, _⟩) rfl ?_ AllReadyH.nil)
          · intro K hK
            refine Stepping.mk (appS_step tI (base := w6.heap.size) rfl (.tmp 39) (.tmp 41) rfl rfl rfl OAwt70.out (BT11.out.below Bwt70.out).ar LA6.out Bwt70.out.size ?_)
            intro ywt71 wt71 own gr _
            have bwt71 := grown_base Bwt70.out Bwt70.out.size gr OAwt70.out
            have OBwt71 := Lib.hid (OwnR.other OBwt70.out gr OAwt70.out (by decide))
            obtain ⟨Nwt71, nwt71, cwt71, hv, _, _, _, _⟩ := own.row'
            subst hv
            have OAwt71 := Lib.hid own
            have Bwt71 := Lib.hid bwt71
            refine hK.out _ _ (HS6.out _ bwt71) (fun hHeld => ?_)
            clear hK K own gr bwt71 Bwt70 OBwt70 OAwt70
            try go_frame
            refine wpAnyH_ready (rs := [6, 10]) (by kernel_rfl) (by simp) ?_
            refine ready_cons (i := 6) (o := ⟨_, _, _, _, _, _⟩) rfl ?_ (ready_cons (i := 10) (o := ⟨_, _, _, _, _, _⟩) rfl ?_ AllReadyH.nil)
            · intro K hK
              refine call_step (f := 20) (args := #[batV A5 n5 c5 M5 m5 d5]) rfl (by kernel_rfl) ?_
              refine (real13_any A5 n5 c5 M5 m5 d5 _ _ wt71 (BT11.out.below Bwt71.out) hm5).mono ?_; rintro r wt72 ⟨Mrwt72, drwt72, rfl, hbr, hl⟩; have hr := hbr.mr; clear hbr
              have bwt72 := Bwt71.out.trans (hl.mono Bwt71.out.size)
              have OAwt72 := Lib.hid (OwnR.below OAwt71.out hl)
              have OBwt72 := Lib.hid (OwnR.below OBwt71.out hl)
              have RRwt72 := Lib.hid hr
              have Bwt72 := Lib.hid bwt72
              refine ⟨_, rfl, ?_⟩
              refine hK.out _ _ (HS6.out _ bwt72) (fun hHeld => ?_)
              clear hK K hl hr bwt72 Bwt71 OAwt71 OBwt71
              try go_frame
              refine wpAnyH_take (i := 7) (oi := ⟨_, _, _, _, _, _⟩) (v := ?_) rfl (by kernel_rfl) (by kernel_rfl) (by kernel_rfl) (fun _ _ _ h => h) (Or.inl ⟨by rfl, ?_⟩) (by assumption) ?_
              rotate_left
              · intro w hSw; (try dsimp only at hSw); go_simp; try (with_reducible rfl)
              try go_frame
              refine wpAnyH_ready (rs := [8, 10]) (by kernel_rfl) (by simp) ?_
              refine ready_cons (i := 8) (o := ⟨_, _, _, _, _, _⟩) rfl ?_ (ready_cons (i := 10) (o := ⟨_, _, _, _, _, _⟩) rfl ?_ AllReadyH.nil)
              · intro K hK
                refine Stepping.mk (appS_step tMR (base := w6.heap.size) rfl (.tmp 43) (.tmp 46) rfl rfl rfl OBwt72.out RRwt72.out LB6.out Bwt72.out.size ?_)
                intro ywt73 wt73 own gr _
                have bwt73 := grown_base Bwt72.out Bwt72.out.size gr OBwt72.out
                have OAwt73 := Lib.hid (OwnR.other OAwt72.out gr OBwt72.out (by decide))
                obtain ⟨Nwt73, nwt73, cwt73, hv, _, _, _, _⟩ := own.row'
                subst hv
                have OBwt73 := Lib.hid own
                have Bwt73 := Lib.hid bwt73
                refine hK.out _ _ (HS6.out _ bwt73) (fun hHeld => ?_)
                clear hK K own gr bwt73 Bwt72 OAwt72 OBwt72 RRwt72
                try go_frame
                refine wpAnyH_take (i := 9) (oi := ⟨_, _, _, _, _, _⟩) (v := ?_) rfl (by kernel_rfl) (by kernel_rfl) (by kernel_rfl) (fun _ _ _ h => h) (Or.inl ⟨by rfl, ?_⟩) (by assumption) ?_
                rotate_left
                · intro w hSw; (try dsimp only at hSw); go_simp; try (with_reducible rfl)
                try go_frame
                refine wpAnyH_ready (rs := [10]) (by kernel_rfl) (by simp) ?_
                refine ready_cons (i := 10) (o := ⟨_, _, _, _, _, _⟩) rfl ?_ AllReadyH.nil
                · intro K hK
                  constructor
                  go_simp
                  have bwt74 := Bwt73.out.alloc Bwt73.out.size (bobj 25 none 0 0 none 0 0)
                  refine hK.out _ _ (HS6.out _ bwt74) (fun hHeld => ?_)
                  have Bwt74 := Lib.hid bwt74
                  have OAwt74 := Lib.hid (OwnR.alloc OAwt73.out (bobj 25 none 0 0 none 0 0))
                  have OBwt74 := Lib.hid (OwnR.alloc OBwt73.out (bobj 25 none 0 0 none 0 0))
                  have KGwt74 := Lib.hid (heap_alloc_at wt73 (bobj 25 none 0 0 none 0 0))
                  have GLwt74 : Hid (w6.heap.size ≤ wt73.heap.size) := Lib.hid Bwt73.out.size
                  clear hK K hHeld bwt74 Bwt73 OAwt73 OBwt73
                  generalize wt73.heap.size = gwt74 at OAwt74 OBwt74 KGwt74 GLwt74 ⊢
                  generalize wt73.alloc (bobj 25 none 0 0 none 0 0) = wt74 at OAwt74 OBwt74 KGwt74 GLwt74 Bwt74 ⊢
                  refine wpAnyH_ready (rs := [11]) (by kernel_rfl) (by simp) ?_
                  refine ready_cons (i := 11) (o := ⟨_, _, _, _, _, _⟩) rfl ?_ AllReadyH.nil
                  · intro K hK
                    have TW := twin_store Bwt74.out GLwt74.out KGwt74.out OAwt74.out OBwt74.out (by decide) (by decide)
                    obtain ⟨z0, z1⟩ := bobj_cells KGwt74.out
                    have zf0 := frozen_of KGwt74.out 0
                    have zf1 := frozen_of KGwt74.out 1
                    have HTW := Lib.hid TW
                    clear TW
                    constructor
                    go_simp
                    refine hK.out _ _ (HS6.out _ HTW.out.low) (fun hHeld => ?_)
                    clear hK K
                    refine wpAnyH_done (by kernel_rfl) ?_ _
                    go_wp2
                    go_meet
                    exact ⟨_, _, _, _, _, _, _, rfl, HTW.out⟩
              · intro K hK
                constructor
                go_simp
                have bwt76 := Bwt72.out.alloc Bwt72.out.size (bobj 25 none 0 0 none 0 0)
                refine hK.out _ _ (HS6.out _ bwt76) (fun hHeld => ?_)
                have Bwt76 := Lib.hid bwt76
                have OAwt76 := Lib.hid (OwnR.alloc OAwt72.out (bobj 25 none 0 0 none 0 0))
                have OBwt76 := Lib.hid (OwnR.alloc OBwt72.out (bobj 25 none 0 0 none 0 0))
                have RRwt76 := Lib.hid (RowR.later RRwt72.out (below_alloc _ (bobj 25 none 0 0 none 0 0)))
                have KGwt76 := Lib.hid (heap_alloc_at wt72 (bobj 25 none 0 0 none 0 0))
                have GLwt76 : Hid (w6.heap.size ≤ wt72.heap.size) := Lib.hid Bwt72.out.size
                clear hK K hHeld bwt76 Bwt72 OAwt72 OBwt72 RRwt72
                generalize wt72.heap.size = gwt76 at OAwt76 OBwt76 KGwt76 GLwt76 ⊢
                generalize wt72.alloc (bobj 25 none 0 0 none 0 0) = wt76 at OAwt76 OBwt76 KGwt76 GLwt76 RRwt76 Bwt76 ⊢
                refine wpAnyH_ready (rs := [8]) (by kernel_rfl) (by simp) ?_
                refine ready_cons (i := 8) (o := ⟨_, _, _, _, _, _⟩) rfl ?_ AllReadyH.nil
                · intro K hK
                  refine Stepping.mk (appS_step tMR (base := w6.heap.size) rfl (.tmp 43) (.tmp 46) rfl rfl rfl OBwt76.out RRwt76.out LB6.out Bwt76.out.size ?_)
                  intro ywt77 wt77 own gr _
                  have bwt77 := grown_base Bwt76.out Bwt76.out.size gr OBwt76.out
                  have OAwt77 := Lib.hid (OwnR.other OAwt76.out gr OBwt76.out (by decide))
                  have KGwt77 := Lib.hid (kept_other KGwt76.out gr OBwt76.out (by decide))
                  obtain ⟨Nwt77, nwt77, cwt77, hv, _, _, _, _⟩ := own.row'
                  subst hv
                  have OBwt77 := Lib.hid own
                  have Bwt77 := Lib.hid bwt77
                  refine hK.out _ _ (HS6.out _ bwt77) (fun hHeld => ?_)
                  clear hK K own gr bwt77 Bwt76 OAwt76 KGwt76 OBwt76 RRwt76
                  try go_frame
                  refine wpAnyH_take (i := 9) (oi := ⟨_, _, _, _, _, _⟩) (v := ?_) rfl (by kernel_rfl) (by kernel_rfl) (by kernel_rfl) (fun _ _ _ h => h) (Or.inl ⟨by rfl, ?_⟩) (by assumption) ?_
                  rotate_left
                  · intro w hSw; (try dsimp only at hSw); go_simp; try (with_reducible rfl)
                  try go_frame
                  refine wpAnyH_ready (rs := [11]) (by kernel_rfl) (by simp) ?_
                  refine ready_cons (i := 11) (o := ⟨_, _, _, _, _, _⟩) rfl ?_ AllReadyH.nil
                  · intro K hK
                    have TW := twin_store Bwt77.out GLwt76.out KGwt77.out OAwt77.out OBwt77.out (by decide) (by decide)
                    obtain ⟨z0, z1⟩ := bobj_cells KGwt77.out
                    have zf0 := frozen_of KGwt77.out 0
                    have zf1 := frozen_of KGwt77.out 1
                    have HTW := Lib.hid TW
                    clear TW
                    constructor
                    go_simp
                    refine hK.out _ _ (HS6.out _ HTW.out.low) (fun hHeld => ?_)
                    clear hK K
                    refine wpAnyH_done (by kernel_rfl) ?_ _
                    go_wp2
                    go_meet
                    exact ⟨_, _, _, _, _, _, _, rfl, HTW.out⟩
            · intro K hK
              constructor
              go_simp
              have bwt79 := Bwt71.out.alloc Bwt71.out.size (bobj 25 none 0 0 none 0 0)
              refine hK.out _ _ (HS6.out _ bwt79) (fun hHeld => ?_)
              have Bwt79 := Lib.hid bwt79
              have OAwt79 := Lib.hid (OwnR.alloc OAwt71.out (bobj 25 none 0 0 none 0 0))
              have OBwt79 := Lib.hid (OwnR.alloc OBwt71.out (bobj 25 none 0 0 none 0 0))
              have KGwt79 := Lib.hid (heap_alloc_at wt71 (bobj 25 none 0 0 none 0 0))
              have GLwt79 : Hid (w6.heap.size ≤ wt71.heap.size) := Lib.hid Bwt71.out.size
              clear hK K hHeld bwt79 Bwt71 OAwt71 OBwt71
              generalize wt71.heap.size = gwt79 at OAwt79 OBwt79 KGwt79 GLwt79 ⊢
              generalize wt71.alloc (bobj 25 none 0 0 none 0 0) = wt79 at OAwt79 OBwt79 KGwt79 GLwt79 Bwt79 ⊢
              refine wpAnyH_ready (rs := [6]) (by kernel_rfl) (by simp) ?_
              refine ready_cons (i := 6) (o := ⟨_, _, _, _, _, _⟩) rfl ?_ AllReadyH.nil
              · intro K hK
                refine call_step (f := 20) (args := #[batV A5 n5 c5 M5 m5 d5]) rfl (by kernel_rfl) ?_
                refine (real13_any A5 n5 c5 M5 m5 d5 _ _ wt79 (BT11.out.below Bwt79.out) hm5).mono ?_; rintro r wt80 ⟨Mrwt80, drwt80, rfl, hbr, hl⟩; have hr := hbr.mr; clear hbr
                have bwt80 := Bwt79.out.trans (hl.mono Bwt79.out.size)
                have OAwt80 := Lib.hid (OwnR.below OAwt79.out hl)
                have OBwt80 := Lib.hid (OwnR.below OBwt79.out hl)
                have KGwt80 := Lib.hid (kb_below KGwt79.out hl)
                have RRwt80 := Lib.hid hr
                have Bwt80 := Lib.hid bwt80
                refine ⟨_, rfl, ?_⟩
                refine hK.out _ _ (HS6.out _ bwt80) (fun hHeld => ?_)
                clear hK K hl hr bwt80 Bwt79 OAwt79 OBwt79 KGwt79
                try go_frame
                refine wpAnyH_take (i := 7) (oi := ⟨_, _, _, _, _, _⟩) (v := ?_) rfl (by kernel_rfl) (by kernel_rfl) (by kernel_rfl) (fun _ _ _ h => h) (Or.inl ⟨by rfl, ?_⟩) (by assumption) ?_
                rotate_left
                · intro w hSw; (try dsimp only at hSw); go_simp; try (with_reducible rfl)
                try go_frame
                refine wpAnyH_ready (rs := [8]) (by kernel_rfl) (by simp) ?_
                refine ready_cons (i := 8) (o := ⟨_, _, _, _, _, _⟩) rfl ?_ AllReadyH.nil
                · intro K hK
                  refine Stepping.mk (appS_step tMR (base := w6.heap.size) rfl (.tmp 43) (.tmp 46) rfl rfl rfl OBwt80.out RRwt80.out LB6.out Bwt80.out.size ?_)
                  intro ywt81 wt81 own gr _
                  have bwt81 := grown_base Bwt80.out Bwt80.out.size gr OBwt80.out
                  have OAwt81 := Lib.hid (OwnR.other OAwt80.out gr OBwt80.out (by decide))
                  have KGwt81 := Lib.hid (kept_other KGwt80.out gr OBwt80.out (by decide))
                  obtain ⟨Nwt81, nwt81, cwt81, hv, _, _, _, _⟩ := own.row'
                  subst hv
                  have OBwt81 := Lib.hid own
                  have Bwt81 := Lib.hid bwt81
                  refine hK.out _ _ (HS6.out _ bwt81) (fun hHeld => ?_)
                  clear hK K own gr bwt81 Bwt80 OAwt80 KGwt80 OBwt80 RRwt80
                  try go_frame
                  refine wpAnyH_take (i := 9) (oi := ⟨_, _, _, _, _, _⟩) (v := ?_) rfl (by kernel_rfl) (by kernel_rfl) (by kernel_rfl) (fun _ _ _ h => h) (Or.inl ⟨by rfl, ?_⟩) (by assumption) ?_
                  rotate_left
                  · intro w hSw; (try dsimp only at hSw); go_simp; try (with_reducible rfl)
                  try go_frame
                  refine wpAnyH_ready (rs := [11]) (by kernel_rfl) (by simp) ?_
                  refine ready_cons (i := 11) (o := ⟨_, _, _, _, _, _⟩) rfl ?_ AllReadyH.nil
                  · intro K hK
                    have TW := twin_store Bwt81.out GLwt79.out KGwt81.out OAwt81.out OBwt81.out (by decide) (by decide)
                    obtain ⟨z0, z1⟩ := bobj_cells KGwt81.out
                    have zf0 := frozen_of KGwt81.out 0
                    have zf1 := frozen_of KGwt81.out 1
                    have HTW := Lib.hid TW
                    clear TW
                    constructor
                    go_simp
                    refine hK.out _ _ (HS6.out _ HTW.out.low) (fun hHeld => ?_)
                    clear hK K
                    refine wpAnyH_done (by kernel_rfl) ?_ _
                    go_wp2
                    go_meet
                    exact ⟨_, _, _, _, _, _, _, rfl, HTW.out⟩
          · intro K hK
            constructor
            go_simp
            have bwt83 := Bwt70.out.alloc Bwt70.out.size (bobj 25 none 0 0 none 0 0)
            refine hK.out _ _ (HS6.out _ bwt83) (fun hHeld => ?_)
            have Bwt83 := Lib.hid bwt83
            have OAwt83 := Lib.hid (OwnR.alloc OAwt70.out (bobj 25 none 0 0 none 0 0))
            have OBwt83 := Lib.hid (OwnR.alloc OBwt70.out (bobj 25 none 0 0 none 0 0))
            have KGwt83 := Lib.hid (heap_alloc_at wt70 (bobj 25 none 0 0 none 0 0))
            have GLwt83 : Hid (w6.heap.size ≤ wt70.heap.size) := Lib.hid Bwt70.out.size
            clear hK K hHeld bwt83 Bwt70 OAwt70 OBwt70
            generalize wt70.heap.size = gwt83 at OAwt83 OBwt83 KGwt83 GLwt83 ⊢
            generalize wt70.alloc (bobj 25 none 0 0 none 0 0) = wt83 at OAwt83 OBwt83 KGwt83 GLwt83 Bwt83 ⊢
            refine wpAnyH_ready (rs := [3]) (by kernel_rfl) (by simp) ?_
            refine ready_cons (i := 3) (o := ⟨_, _, _, _, _, _⟩) rfl ?_ AllReadyH.nil
            · intro K hK
              refine Stepping.mk (appS_step tI (base := w6.heap.size) rfl (.tmp 39) (.tmp 41) rfl rfl rfl OAwt83.out (BT11.out.below Bwt83.out).ar LA6.out Bwt83.out.size ?_)
              intro ywt84 wt84 own gr _
              have bwt84 := grown_base Bwt83.out Bwt83.out.size gr OAwt83.out
              have OBwt84 := Lib.hid (OwnR.other OBwt83.out gr OAwt83.out (by decide))
              have KGwt84 := Lib.hid (kept_other KGwt83.out gr OAwt83.out (by decide))
              obtain ⟨Nwt84, nwt84, cwt84, hv, _, _, _, _⟩ := own.row'
              subst hv
              have OAwt84 := Lib.hid own
              have Bwt84 := Lib.hid bwt84
              refine hK.out _ _ (HS6.out _ bwt84) (fun hHeld => ?_)
              clear hK K own gr bwt84 Bwt83 OBwt83 KGwt83 OAwt83
              try go_frame
              refine wpAnyH_ready (rs := [6]) (by kernel_rfl) (by simp) ?_
              refine ready_cons (i := 6) (o := ⟨_, _, _, _, _, _⟩) rfl ?_ AllReadyH.nil
              · intro K hK
                refine call_step (f := 20) (args := #[batV A5 n5 c5 M5 m5 d5]) rfl (by kernel_rfl) ?_
                refine (real13_any A5 n5 c5 M5 m5 d5 _ _ wt84 (BT11.out.below Bwt84.out) hm5).mono ?_; rintro r wt85 ⟨Mrwt85, drwt85, rfl, hbr, hl⟩; have hr := hbr.mr; clear hbr
                have bwt85 := Bwt84.out.trans (hl.mono Bwt84.out.size)
                have OAwt85 := Lib.hid (OwnR.below OAwt84.out hl)
                have OBwt85 := Lib.hid (OwnR.below OBwt84.out hl)
                have KGwt85 := Lib.hid (kb_below KGwt84.out hl)
                have RRwt85 := Lib.hid hr
                have Bwt85 := Lib.hid bwt85
                refine ⟨_, rfl, ?_⟩
                refine hK.out _ _ (HS6.out _ bwt85) (fun hHeld => ?_)
                clear hK K hl hr bwt85 Bwt84 OAwt84 OBwt84 KGwt84
                try go_frame
                refine wpAnyH_take (i := 7) (oi := ⟨_, _, _, _, _, _⟩) (v := ?_) rfl (by kernel_rfl) (by kernel_rfl) (by kernel_rfl) (fun _ _ _ h => h) (Or.inl ⟨by rfl, ?_⟩) (by assumption) ?_
                rotate_left
                · intro w hSw; (try dsimp only at hSw); go_simp; try (with_reducible rfl)
                try go_frame
                refine wpAnyH_ready (rs := [8]) (by kernel_rfl) (by simp) ?_
                refine ready_cons (i := 8) (o := ⟨_, _, _, _, _, _⟩) rfl ?_ AllReadyH.nil
                · intro K hK
                  refine Stepping.mk (appS_step tMR (base := w6.heap.size) rfl (.tmp 43) (.tmp 46) rfl rfl rfl OBwt85.out RRwt85.out LB6.out Bwt85.out.size ?_)
                  intro ywt86 wt86 own gr _
                  have bwt86 := grown_base Bwt85.out Bwt85.out.size gr OBwt85.out
                  have OAwt86 := Lib.hid (OwnR.other OAwt85.out gr OBwt85.out (by decide))
                  have KGwt86 := Lib.hid (kept_other KGwt85.out gr OBwt85.out (by decide))
                  obtain ⟨Nwt86, nwt86, cwt86, hv, _, _, _, _⟩ := own.row'
                  subst hv
                  have OBwt86 := Lib.hid own
                  have Bwt86 := Lib.hid bwt86
                  refine hK.out _ _ (HS6.out _ bwt86) (fun hHeld => ?_)
                  clear hK K own gr bwt86 Bwt85 OAwt85 KGwt85 OBwt85 RRwt85
                  try go_frame
                  refine wpAnyH_take (i := 9) (oi := ⟨_, _, _, _, _, _⟩) (v := ?_) rfl (by kernel_rfl) (by kernel_rfl) (by kernel_rfl) (fun _ _ _ h => h) (Or.inl ⟨by rfl, ?_⟩) (by assumption) ?_
                  rotate_left
                  · intro w hSw; (try dsimp only at hSw); go_simp; try (with_reducible rfl)
                  try go_frame
                  refine wpAnyH_ready (rs := [11]) (by kernel_rfl) (by simp) ?_
                  refine ready_cons (i := 11) (o := ⟨_, _, _, _, _, _⟩) rfl ?_ AllReadyH.nil
                  · intro K hK
                    have TW := twin_store Bwt86.out GLwt83.out KGwt86.out OAwt86.out OBwt86.out (by decide) (by decide)
                    obtain ⟨z0, z1⟩ := bobj_cells KGwt86.out
                    have zf0 := frozen_of KGwt86.out 0
                    have zf1 := frozen_of KGwt86.out 1
                    have HTW := Lib.hid TW
                    clear TW
                    constructor
                    go_simp
                    refine hK.out _ _ (HS6.out _ HTW.out.low) (fun hHeld => ?_)
                    clear hK K
                    refine wpAnyH_done (by kernel_rfl) ?_ _
                    go_wp2
                    go_meet
                    exact ⟨_, _, _, _, _, _, _, rfl, HTW.out⟩
        · intro K hK
          constructor
          go_simp
          have bwt88 := Bwt69.out.alloc Bwt69.out.size (bobj 25 none 0 0 none 0 0)
          refine hK.out _ _ (HS6.out _ bwt88) (fun hHeld => ?_)
          have Bwt88 := Lib.hid bwt88
          have OBwt88 := Lib.hid (OwnR.alloc OBwt69.out (bobj 25 none 0 0 none 0 0))
          have KGwt88 := Lib.hid (heap_alloc_at wt69 (bobj 25 none 0 0 none 0 0))
          have GLwt88 : Hid (w6.heap.size ≤ wt69.heap.size) := Lib.hid Bwt69.out.size
          clear hK K hHeld bwt88 Bwt69 OBwt69
          generalize wt69.heap.size = gwt88 at OBwt88 KGwt88 GLwt88 ⊢
          generalize wt69.alloc (bobj 25 none 0 0 none 0 0) = wt88 at OBwt88 KGwt88 GLwt88 Bwt88 ⊢
          refine wpAnyH_ready (rs := [0]) (by kernel_rfl) (by simp) ?_
          refine ready_cons (i := 0) (o := ⟨_, _, _, _, _, _⟩) rfl ?_ AllReadyH.nil
          · intro K hK
            constructor
            go_simp
            have bwt89 := Bwt88.out.alloc Bwt88.out.size (.cells #[] 3)
            refine hK.out _ _ (HS6.out _ bwt89) (fun hHeld => ?_)
            have Bwt89 := Lib.hid bwt89
            have OBwt89 := Lib.hid (OwnR.alloc OBwt88.out (.cells #[] 3))
            have KGwt89 := Lib.hid (kb_alloc KGwt88.out (.cells #[] 3))
            have OAwt89 := Lib.hid (OwnR.empty (R := irec) wt88 3 (base := w6.heap.size) Bwt88.out.size)
            clear hK K hHeld bwt89 Bwt88 OBwt88 KGwt88
            generalize wt88.heap.size = gwt89 at OAwt89 OBwt89 KGwt89 GLwt88 ⊢
            generalize wt88.alloc (.cells #[] 3) = wt89 at OAwt89 OBwt89 KGwt89 GLwt88 Bwt89 ⊢
            refine wpAnyH_ready (rs := [3]) (by kernel_rfl) (by simp) ?_
            refine ready_cons (i := 3) (o := ⟨_, _, _, _, _, _⟩) rfl ?_ AllReadyH.nil
            · intro K hK
              refine Stepping.mk (appS_step tI (base := w6.heap.size) rfl (.tmp 39) (.tmp 41) rfl rfl rfl OAwt89.out (BT11.out.below Bwt89.out).ar LA6.out Bwt89.out.size ?_)
              intro ywt90 wt90 own gr _
              have bwt90 := grown_base Bwt89.out Bwt89.out.size gr OAwt89.out
              have OBwt90 := Lib.hid (OwnR.other OBwt89.out gr OAwt89.out (by decide))
              have KGwt90 := Lib.hid (kept_other KGwt89.out gr OAwt89.out (by decide))
              obtain ⟨Nwt90, nwt90, cwt90, hv, _, _, _, _⟩ := own.row'
              subst hv
              have OAwt90 := Lib.hid own
              have Bwt90 := Lib.hid bwt90
              refine hK.out _ _ (HS6.out _ bwt90) (fun hHeld => ?_)
              clear hK K own gr bwt90 Bwt89 OBwt89 KGwt89 OAwt89
              try go_frame
              refine wpAnyH_ready (rs := [6]) (by kernel_rfl) (by simp) ?_
              refine ready_cons (i := 6) (o := ⟨_, _, _, _, _, _⟩) rfl ?_ AllReadyH.nil
              · intro K hK
                refine call_step (f := 20) (args := #[batV A5 n5 c5 M5 m5 d5]) rfl (by kernel_rfl) ?_
                refine (real13_any A5 n5 c5 M5 m5 d5 _ _ wt90 (BT11.out.below Bwt90.out) hm5).mono ?_; rintro r wt91 ⟨Mrwt91, drwt91, rfl, hbr, hl⟩; have hr := hbr.mr; clear hbr
                have bwt91 := Bwt90.out.trans (hl.mono Bwt90.out.size)
                have OAwt91 := Lib.hid (OwnR.below OAwt90.out hl)
                have OBwt91 := Lib.hid (OwnR.below OBwt90.out hl)
                have KGwt91 := Lib.hid (kb_below KGwt90.out hl)
                have RRwt91 := Lib.hid hr
                have Bwt91 := Lib.hid bwt91
                refine ⟨_, rfl, ?_⟩
                refine hK.out _ _ (HS6.out _ bwt91) (fun hHeld => ?_)
                clear hK K hl hr bwt91 Bwt90 OAwt90 OBwt90 KGwt90
                try go_frame
                refine wpAnyH_take (i := 7) (oi := ⟨_, _, _, _, _, _⟩) (v := ?_) rfl (by kernel_rfl) (by kernel_rfl) (by kernel_rfl) (fun _ _ _ h => h) (Or.inl ⟨by rfl, ?_⟩) (by assumption) ?_
                rotate_left
                · intro w hSw; (try dsimp only at hSw); go_simp; try (with_reducible rfl)
                try go_frame
                refine wpAnyH_ready (rs := [8]) (by kernel_rfl) (by simp) ?_
                refine ready_cons (i := 8) (o := ⟨_, _, _, _, _, _⟩) rfl ?_ AllReadyH.nil
                · intro K hK
                  refine Stepping.mk (appS_step tMR (base := w6.heap.size) rfl (.tmp 43) (.tmp 46) rfl rfl rfl OBwt91.out RRwt91.out LB6.out Bwt91.out.size ?_)
                  intro ywt92 wt92 own gr _
                  have bwt92 := grown_base Bwt91.out Bwt91.out.size gr OBwt91.out
                  have OAwt92 := Lib.hid (OwnR.other OAwt91.out gr OBwt91.out (by decide))
                  have KGwt92 := Lib.hid (kept_other KGwt91.out gr OBwt91.out (by decide))
                  obtain ⟨Nwt92, nwt92, cwt92, hv, _, _, _, _⟩ := own.row'
                  subst hv
                  have OBwt92 := Lib.hid own
                  have Bwt92 := Lib.hid bwt92
                  refine hK.out _ _ (HS6.out _ bwt92) (fun hHeld => ?_)
                  clear hK K own gr bwt92 Bwt91 OAwt91 KGwt91 OBwt91 RRwt91
                  try go_frame
                  refine wpAnyH_take (i := 9) (oi := ⟨_, _, _, _, _, _⟩) (v := ?_) rfl (by kernel_rfl) (by kernel_rfl) (by kernel_rfl) (fun _ _ _ h => h) (Or.inl ⟨by rfl, ?_⟩) (by assumption) ?_
                  rotate_left
                  · intro w hSw; (try dsimp only at hSw); go_simp; try (with_reducible rfl)
                  try go_frame
                  refine wpAnyH_ready (rs := [11]) (by kernel_rfl) (by simp) ?_
                  refine ready_cons (i := 11) (o := ⟨_, _, _, _, _, _⟩) rfl ?_ AllReadyH.nil
                  · intro K hK
                    have TW := twin_store Bwt92.out GLwt88.out KGwt92.out OAwt92.out OBwt92.out (by decide) (by decide)
                    obtain ⟨z0, z1⟩ := bobj_cells KGwt92.out
                    have zf0 := frozen_of KGwt92.out 0
                    have zf1 := frozen_of KGwt92.out 1
                    have HTW := Lib.hid TW
                    clear TW
                    constructor
                    go_simp
                    refine hK.out _ _ (HS6.out _ HTW.out.low) (fun hHeld => ?_)
                    clear hK K
                    refine wpAnyH_done (by kernel_rfl) ?_ _
                    go_wp2
                    go_meet
                    exact ⟨_, _, _, _, _, _, _, rfl, HTW.out⟩
      · intro K hK
        constructor
        go_simp
        have bwt94 := Bwt0.out.alloc Bwt0.out.size (bobj 25 none 0 0 none 0 0)
        refine hK.out _ _ (HS6.out _ bwt94) (fun hHeld => ?_)
        have Bwt94 := Lib.hid bwt94
        have KGwt94 := Lib.hid (heap_alloc_at wt0 (bobj 25 none 0 0 none 0 0))
        have GLwt94 : Hid (w6.heap.size ≤ wt0.heap.size) := Lib.hid Bwt0.out.size
        clear hK K hHeld bwt94 Bwt0 
        generalize wt0.heap.size = gwt94 at KGwt94 GLwt94 ⊢
        generalize wt0.alloc (bobj 25 none 0 0 none 0 0) = wt94 at KGwt94 GLwt94 Bwt94 ⊢
        refine wpAnyH_ready (rs := [0, 4]) (by kernel_rfl) (by simp) ?_
        refine ready_cons (i := 0) (o := ⟨_, _, _, _, _, _⟩) rfl ?_ (ready_cons (i := 4) (o := ⟨_, _, _, _, _, _⟩) rfl ?_ AllReadyH.nil)
        · intro K hK
          constructor
          go_simp
          have bwt95 := Bwt94.out.alloc Bwt94.out.size (.cells #[] 3)
          refine hK.out _ _ (HS6.out _ bwt95) (fun hHeld => ?_)
          have Bwt95 := Lib.hid bwt95
          have KGwt95 := Lib.hid (kb_alloc KGwt94.out (.cells #[] 3))
          have OAwt95 := Lib.hid (OwnR.empty (R := irec) wt94 3 (base := w6.heap.size) Bwt94.out.size)
          clear hK K hHeld bwt95 Bwt94 KGwt94
          generalize wt94.heap.size = gwt95 at OAwt95 KGwt95 GLwt94 ⊢
          generalize wt94.alloc (.cells #[] 3) = wt95 at OAwt95 KGwt95 GLwt94 Bwt95 ⊢
          refine wpAnyH_ready (rs := [3, 4]) (by kernel_rfl) (by simp) ?_
          refine ready_cons (i := 3) (o := ⟨_, _, _, _, _, _⟩) rfl ?_ (ready_cons (i := 4) (o := ⟨_, _, _, _, _, _⟩) rfl ?_ AllReadyH.nil)
          · intro K hK
            refine Stepping.mk (appS_step tI (base := w6.heap.size) rfl (.tmp 39) (.tmp 41) rfl rfl rfl OAwt95.out (BT11.out.below Bwt95.out).ar LA6.out Bwt95.out.size ?_)
            intro ywt96 wt96 own gr _
            have bwt96 := grown_base Bwt95.out Bwt95.out.size gr OAwt95.out
            have KGwt96 := Lib.hid (kept_other KGwt95.out gr OAwt95.out (by decide))
            obtain ⟨Nwt96, nwt96, cwt96, hv, _, _, _, _⟩ := own.row'
            subst hv
            have OAwt96 := Lib.hid own
            have Bwt96 := Lib.hid bwt96
            refine hK.out _ _ (HS6.out _ bwt96) (fun hHeld => ?_)
            clear hK K own gr bwt96 Bwt95 KGwt95 OAwt95
            try go_frame
            refine wpAnyH_ready (rs := [4, 6]) (by kernel_rfl) (by simp) ?_
            refine ready_cons (i := 4) (o := ⟨_, _, _, _, _, _⟩) rfl ?_ (ready_cons (i := 6) (o := ⟨_, _, _, _, _, _⟩) rfl ?_ AllReadyH.nil)
            · intro K hK
              constructor
              go_simp
              have bwt97 := Bwt96.out.alloc Bwt96.out.size (.cells #[] 45)
              refine hK.out _ _ (HS6.out _ bwt97) (fun hHeld => ?_)
              have Bwt97 := Lib.hid bwt97
              have OAwt97 := Lib.hid (OwnR.alloc OAwt96.out (.cells #[] 45))
              have KGwt97 := Lib.hid (kb_alloc KGwt96.out (.cells #[] 45))
              have OBwt97 := Lib.hid (OwnR.empty (R := prec) wt96 45 (base := w6.heap.size) Bwt96.out.size)
              clear hK K hHeld bwt97 Bwt96 OAwt96 KGwt96
              generalize wt96.heap.size = gwt97 at OAwt97 OBwt97 KGwt97 GLwt94 ⊢
              generalize wt96.alloc (.cells #[] 45) = wt97 at OAwt97 OBwt97 KGwt97 GLwt94 Bwt97 ⊢
              refine wpAnyH_ready (rs := [6]) (by kernel_rfl) (by simp) ?_
              refine ready_cons (i := 6) (o := ⟨_, _, _, _, _, _⟩) rfl ?_ AllReadyH.nil
              · intro K hK
                refine call_step (f := 20) (args := #[batV A5 n5 c5 M5 m5 d5]) rfl (by kernel_rfl) ?_
                refine (real13_any A5 n5 c5 M5 m5 d5 _ _ wt97 (BT11.out.below Bwt97.out) hm5).mono ?_; rintro r wt98 ⟨Mrwt98, drwt98, rfl, hbr, hl⟩; have hr := hbr.mr; clear hbr
                have bwt98 := Bwt97.out.trans (hl.mono Bwt97.out.size)
                have OAwt98 := Lib.hid (OwnR.below OAwt97.out hl)
                have OBwt98 := Lib.hid (OwnR.below OBwt97.out hl)
                have KGwt98 := Lib.hid (kb_below KGwt97.out hl)
                have RRwt98 := Lib.hid hr
                have Bwt98 := Lib.hid bwt98
                refine ⟨_, rfl, ?_⟩
                refine hK.out _ _ (HS6.out _ bwt98) (fun hHeld => ?_)
                clear hK K hl hr bwt98 Bwt97 OAwt97 OBwt97 KGwt97
                try go_frame
                refine wpAnyH_take (i := 7) (oi := ⟨_, _, _, _, _, _⟩) (v := ?_) rfl (by kernel_rfl) (by kernel_rfl) (by kernel_rfl) (fun _ _ _ h => h) (Or.inl ⟨by rfl, ?_⟩) (by assumption) ?_
                rotate_left
                · intro w hSw; (try dsimp only at hSw); go_simp; try (with_reducible rfl)
                try go_frame
                refine wpAnyH_ready (rs := [8]) (by kernel_rfl) (by simp) ?_
                refine ready_cons (i := 8) (o := ⟨_, _, _, _, _, _⟩) rfl ?_ AllReadyH.nil
                · intro K hK
                  refine Stepping.mk (appS_step tMR (base := w6.heap.size) rfl (.tmp 43) (.tmp 46) rfl rfl rfl OBwt98.out RRwt98.out LB6.out Bwt98.out.size ?_)
                  intro ywt99 wt99 own gr _
                  have bwt99 := grown_base Bwt98.out Bwt98.out.size gr OBwt98.out
                  have OAwt99 := Lib.hid (OwnR.other OAwt98.out gr OBwt98.out (by decide))
                  have KGwt99 := Lib.hid (kept_other KGwt98.out gr OBwt98.out (by decide))
                  obtain ⟨Nwt99, nwt99, cwt99, hv, _, _, _, _⟩ := own.row'
                  subst hv
                  have OBwt99 := Lib.hid own
                  have Bwt99 := Lib.hid bwt99
                  refine hK.out _ _ (HS6.out _ bwt99) (fun hHeld => ?_)
                  clear hK K own gr bwt99 Bwt98 OAwt98 KGwt98 OBwt98 RRwt98
                  try go_frame
                  refine wpAnyH_take (i := 9) (oi := ⟨_, _, _, _, _, _⟩) (v := ?_) rfl (by kernel_rfl) (by kernel_rfl) (by kernel_rfl) (fun _ _ _ h => h) (Or.inl ⟨by rfl, ?_⟩) (by assumption) ?_
                  rotate_left
                  · intro w hSw; (try dsimp only at hSw); go_simp; try (with_reducible rfl)
                  try go_frame
                  refine wpAnyH_ready (rs := [11]) (by kernel_rfl) (by simp) ?_
                  refine ready_cons (i := 11) (o := ⟨_, _, _, _, _, _⟩) rfl ?_ AllReadyH.nil
                  · intro K hK
                    have TW := twin_store Bwt99.out GLwt94.out KGwt99.out OAwt99.out OBwt99.out (by decide) (by decide)
                    obtain ⟨z0, z1⟩ := bobj_cells KGwt99.out
                    have zf0 := frozen_of KGwt99.out 0
                    have zf1 := frozen_of KGwt99.out 1
                    have HTW := Lib.hid TW
                    clear TW
                    constructor
                    go_simp
                    refine hK.out _ _ (HS6.out _ HTW.out.low) (fun hHeld => ?_)
                    clear hK K
                    refine wpAnyH_done (by kernel_rfl) ?_ _
                    go_wp2
                    go_meet
                    exact ⟨_, _, _, _, _, _, _, rfl, HTW.out⟩
            · intro K hK
              refine call_step (f := 20) (args := #[batV A5 n5 c5 M5 m5 d5]) rfl (by kernel_rfl) ?_
              refine (real13_any A5 n5 c5 M5 m5 d5 _ _ wt96 (BT11.out.below Bwt96.out) hm5).mono ?_; rintro r wt101 ⟨Mrwt101, drwt101, rfl, hbr, hl⟩; have hr := hbr.mr; clear hbr
              have bwt101 := Bwt96.out.trans (hl.mono Bwt96.out.size)
              have OAwt101 := Lib.hid (OwnR.below OAwt96.out hl)
              have KGwt101 := Lib.hid (kb_below KGwt96.out hl)
              have RRwt101 := Lib.hid hr
              have Bwt101 := Lib.hid bwt101
              refine ⟨_, rfl, ?_⟩
              refine hK.out _ _ (HS6.out _ bwt101) (fun hHeld => ?_)
              clear hK K hl hr bwt101 Bwt96 OAwt96 KGwt96
              try go_frame
              refine wpAnyH_take (i := 7) (oi := ⟨_, _, _, _, _, _⟩) (v := ?_) rfl (by kernel_rfl) (by kernel_rfl) (by kernel_rfl) (fun _ _ _ h => h) (Or.inl ⟨by rfl, ?_⟩) (by assumption) ?_
              rotate_left
              · intro w hSw; (try dsimp only at hSw); go_simp; try (with_reducible rfl)
              try go_frame
              refine wpAnyH_ready (rs := [4]) (by kernel_rfl) (by simp) ?_
              refine ready_cons (i := 4) (o := ⟨_, _, _, _, _, _⟩) rfl ?_ AllReadyH.nil
              · intro K hK
                constructor
                go_simp
                have bwt102 := Bwt101.out.alloc Bwt101.out.size (.cells #[] 45)
                refine hK.out _ _ (HS6.out _ bwt102) (fun hHeld => ?_)
                have Bwt102 := Lib.hid bwt102
                have OAwt102 := Lib.hid (OwnR.alloc OAwt101.out (.cells #[] 45))
                have KGwt102 := Lib.hid (kb_alloc KGwt101.out (.cells #[] 45))
                have RRwt102 := Lib.hid (RowR.later RRwt101.out (below_alloc _ (.cells #[] 45)))
                have OBwt102 := Lib.hid (OwnR.empty (R := prec) wt101 45 (base := w6.heap.size) Bwt101.out.size)
                clear hK K hHeld bwt102 Bwt101 OAwt101 KGwt101 RRwt101
                generalize wt101.heap.size = gwt102 at OAwt102 OBwt102 KGwt102 GLwt94 ⊢
                generalize wt101.alloc (.cells #[] 45) = wt102 at OAwt102 OBwt102 KGwt102 GLwt94 RRwt102 Bwt102 ⊢
                refine wpAnyH_ready (rs := [8]) (by kernel_rfl) (by simp) ?_
                refine ready_cons (i := 8) (o := ⟨_, _, _, _, _, _⟩) rfl ?_ AllReadyH.nil
                · intro K hK
                  refine Stepping.mk (appS_step tMR (base := w6.heap.size) rfl (.tmp 43) (.tmp 46) rfl rfl rfl OBwt102.out RRwt102.out LB6.out Bwt102.out.size ?_)
                  intro ywt103 wt103 own gr _
                  have bwt103 := grown_base Bwt102.out Bwt102.out.size gr OBwt102.out
                  have OAwt103 := Lib.hid (OwnR.other OAwt102.out gr OBwt102.out (by decide))
                  have KGwt103 := Lib.hid (kept_other KGwt102.out gr OBwt102.out (by decide))
                  obtain ⟨Nwt103, nwt103, cwt103, hv, _, _, _, _⟩ := own.row'
                  subst hv
                  have OBwt103 := Lib.hid own
                  have Bwt103 := Lib.hid bwt103
                  refine hK.out _ _ (HS6.out _ bwt103) (fun hHeld => ?_)
                  clear hK K own gr bwt103 Bwt102 OAwt102 KGwt102 OBwt102 RRwt102
                  try go_frame
                  refine wpAnyH_take (i := 9) (oi := ⟨_, _, _, _, _, _⟩) (v := ?_) rfl (by kernel_rfl) (by kernel_rfl) (by kernel_rfl) (fun _ _ _ h => h) (Or.inl ⟨by rfl, ?_⟩) (by assumption) ?_
                  rotate_left
                  · intro w hSw; (try dsimp only at hSw); go_simp; try (with_reducible rfl)
                  try go_frame
                  refine wpAnyH_ready (rs := [11]) (by kernel_rfl) (by simp) ?_
                  refine ready_cons (i := 11) (o := ⟨_, _, _, _, _, _⟩) rfl ?_ AllReadyH.nil
                  · intro K hK
                    have TW := twin_store Bwt103.out GLwt94.out KGwt103.out OAwt103.out OBwt103.out (by decide) (by decide)
                    obtain ⟨z0, z1⟩ := bobj_cells KGwt103.out
                    have zf0 := frozen_of KGwt103.out 0
                    have zf1 := frozen_of KGwt103.out 1
                    have HTW := Lib.hid TW
                    clear TW
                    constructor
                    go_simp
                    refine hK.out _ _ (HS6.out _ HTW.out.low) (fun hHeld => ?_)
                    clear hK K
                    refine wpAnyH_done (by kernel_rfl) ?_ _
                    go_wp2
                    go_meet
                    exact ⟨_, _, _, _, _, _, _, rfl, HTW.out⟩
          · intro K hK
            constructor
            go_simp
            have bwt105 := Bwt95.out.alloc Bwt95.out.size (.cells #[] 45)
            refine hK.out _ _ (HS6.out _ bwt105) (fun hHeld => ?_)
            have Bwt105 := Lib.hid bwt105
            have OAwt105 := Lib.hid (OwnR.alloc OAwt95.out (.cells #[] 45))
            have KGwt105 := Lib.hid (kb_alloc KGwt95.out (.cells #[] 45))
            have OBwt105 := Lib.hid (OwnR.empty (R := prec) wt95 45 (base := w6.heap.size) Bwt95.out.size)
            clear hK K hHeld bwt105 Bwt95 OAwt95 KGwt95
            generalize wt95.heap.size = gwt105 at OAwt105 OBwt105 KGwt105 GLwt94 ⊢
            generalize wt95.alloc (.cells #[] 45) = wt105 at OAwt105 OBwt105 KGwt105 GLwt94 Bwt105 ⊢
            refine wpAnyH_ready (rs := [3]) (by kernel_rfl) (by simp) ?_
            refine ready_cons (i := 3) (o := ⟨_, _, _, _, _, _⟩) rfl ?_ AllReadyH.nil
            · intro K hK
              refine Stepping.mk (appS_step tI (base := w6.heap.size) rfl (.tmp 39) (.tmp 41) rfl rfl rfl OAwt105.out (BT11.out.below Bwt105.out).ar LA6.out Bwt105.out.size ?_)
              intro ywt106 wt106 own gr _
              have bwt106 := grown_base Bwt105.out Bwt105.out.size gr OAwt105.out
              have OBwt106 := Lib.hid (OwnR.other OBwt105.out gr OAwt105.out (by decide))
              have KGwt106 := Lib.hid (kept_other KGwt105.out gr OAwt105.out (by decide))
              obtain ⟨Nwt106, nwt106, cwt106, hv, _, _, _, _⟩ := own.row'
              subst hv
              have OAwt106 := Lib.hid own
              have Bwt106 := Lib.hid bwt106
              refine hK.out _ _ (HS6.out _ bwt106) (fun hHeld => ?_)
              clear hK K own gr bwt106 Bwt105 OBwt105 KGwt105 OAwt105
              try go_frame
              refine wpAnyH_ready (rs := [6]) (by kernel_rfl) (by simp) ?_
              refine ready_cons (i := 6) (o := ⟨_, _, _, _, _, _⟩) rfl ?_ AllReadyH.nil
              · intro K hK
                refine call_step (f := 20) (args := #[batV A5 n5 c5 M5 m5 d5]) rfl (by kernel_rfl) ?_
                refine (real13_any A5 n5 c5 M5 m5 d5 _ _ wt106 (BT11.out.below Bwt106.out) hm5).mono ?_; rintro r wt107 ⟨Mrwt107, drwt107, rfl, hbr, hl⟩; have hr := hbr.mr; clear hbr
                have bwt107 := Bwt106.out.trans (hl.mono Bwt106.out.size)
                have OAwt107 := Lib.hid (OwnR.below OAwt106.out hl)
                have OBwt107 := Lib.hid (OwnR.below OBwt106.out hl)
                have KGwt107 := Lib.hid (kb_below KGwt106.out hl)
                have RRwt107 := Lib.hid hr
                have Bwt107 := Lib.hid bwt107
                refine ⟨_, rfl, ?_⟩
                refine hK.out _ _ (HS6.out _ bwt107) (fun hHeld => ?_)
                clear hK K hl hr bwt107 Bwt106 OAwt106 OBwt106 KGwt106
                try go_frame
                refine wpAnyH_take (i := 7) (oi := ⟨_, _, _, _, _, _⟩) (v := ?_) rfl (by kernel_rfl) (by kernel_rfl) (by kernel_rfl) (fun _ _ _ h => h) (Or.inl ⟨by rfl, ?_⟩) (by assumption) ?_
                rotate_left
                · intro w hSw; (try dsimp only at hSw); go_simp; try (with_reducible rfl)
                try go_frame
                refine wpAnyH_ready (rs := [8]) (by kernel_rfl) (by simp) ?_
                refine ready_cons (i := 8) (o := ⟨_, _, _, _, _, _⟩) rfl ?_ AllReadyH.nil
                · intro K hK
                  refine Stepping.mk (appS_step tMR (base := w6.heap.size) rfl (.tmp 43) (.tmp 46) rfl rfl rfl OBwt107.out RRwt107.out LB6.out Bwt107.out.size ?_)
                  intro ywt108 wt108 own gr _
                  have bwt108 := grown_base Bwt107.out Bwt107.out.size gr OBwt107.out
                  have OAwt108 := Lib.hid (OwnR.other OAwt107.out gr OBwt107.out (by decide))
                  have KGwt108 := Lib.hid (kept_other KGwt107.out gr OBwt107.out (by decide))
                  obtain ⟨Nwt108, nwt108, cwt108, hv, _, _, _, _⟩ := own.row'
                  subst hv
                  have OBwt108 := Lib.hid own
                  have Bwt108 := Lib.hid bwt108
                  refine hK.out _ _ (HS6.out _ bwt108) (fun hHeld => ?_)
                  clear hK K own gr bwt108 Bwt107 OAwt107 KGwt107 OBwt107 RRwt107
                  try go_frame
                  refine wpAnyH_take (i := 9) (oi := ⟨_, _, _, _, _, _⟩) (v := ?_) rfl (by kernel_rfl) (by kernel_rfl) (by kernel_rfl) (fun _ _ _ h => h) (Or.inl ⟨by rfl, ?_⟩) (by assumption) ?_
                  rotate_left
                  · intro w hSw; (try dsimp only at hSw); go_simp; try (with_reducible rfl)
                  try go_frame
                  refine wpAnyH_ready (rs := [11]) (by kernel_rfl) (by simp) ?_
                  refine ready_cons (i := 11) (o := ⟨_, _, _, _, _, _⟩) rfl ?_ AllReadyH.nil
                  · intro K hK
                    have TW := twin_store Bwt108.out GLwt94.out KGwt108.out OAwt108.out OBwt108.out (by decide) (by decide)
                    obtain ⟨z0, z1⟩ := bobj_cells KGwt108.out
                    have zf0 := frozen_of KGwt108.out 0
                    have zf1 := frozen_of KGwt108.out 1
                    have HTW := Lib.hid TW
                    clear TW
                    constructor
                    go_simp
                    refine hK.out _ _ (HS6.out _ HTW.out.low) (fun hHeld => ?_)
                    clear hK K
                    refine wpAnyH_done (by kernel_rfl) ?_ _
                    go_wp2
                    go_meet
                    exact ⟨_, _, _, _, _, _, _, rfl, HTW.out⟩
        · intro K hK
          constructor
          go_simp
          have bwt110 := Bwt94.out.alloc Bwt94.out.size (.cells #[] 45)
          refine hK.out _ _ (HS6.out _ bwt110) (fun hHeld => ?_)
          have Bwt110 := Lib.hid bwt110
          have KGwt110 := Lib.hid (kb_alloc KGwt94.out (.cells #[] 45))
          have OBwt110 := Lib.hid (OwnR.empty (R := prec) wt94 45 (base := w6.heap.size) Bwt94.out.size)
          clear hK K hHeld bwt110 Bwt94 KGwt94
          generalize wt94.heap.size = gwt110 at OBwt110 KGwt110 GLwt94 ⊢
          generalize wt94.alloc (.cells #[] 45) = wt110 at OBwt110 KGwt110 GLwt94 Bwt110 ⊢
          refine wpAnyH_ready (rs := [0]) (by kernel_rfl) (by simp) ?_
          refine ready_cons (i := 0) (o := ⟨_, _, _, _, _, _⟩) rfl ?_ AllReadyH.nil
          · intro K hK
            constructor
            go_simp
            have bwt111 := Bwt110.out.alloc Bwt110.out.size (.cells #[] 3)
            refine hK.out _ _ (HS6.out _ bwt111) (fun hHeld => ?_)
            have Bwt111 := Lib.hid bwt111
            have OBwt111 := Lib.hid (OwnR.alloc OBwt110.out (.cells #[] 3))
            have KGwt111 := Lib.hid (kb_alloc KGwt110.out (.cells #[] 3))
            have OAwt111 := Lib.hid (OwnR.empty (R := irec) wt110 3 (base := w6.heap.size) Bwt110.out.size)
            clear hK K hHeld bwt111 Bwt110 OBwt110 KGwt110
            generalize wt110.heap.size = gwt111 at OAwt111 OBwt111 KGwt111 GLwt94 ⊢
            generalize wt110.alloc (.cells #[] 3) = wt111 at OAwt111 OBwt111 KGwt111 GLwt94 Bwt111 ⊢
            refine wpAnyH_ready (rs := [3]) (by kernel_rfl) (by simp) ?_
            refine ready_cons (i := 3) (o := ⟨_, _, _, _, _, _⟩) rfl ?_ AllReadyH.nil
            · intro K hK
              refine Stepping.mk (appS_step tI (base := w6.heap.size) rfl (.tmp 39) (.tmp 41) rfl rfl rfl OAwt111.out (BT11.out.below Bwt111.out).ar LA6.out Bwt111.out.size ?_)
              intro ywt112 wt112 own gr _
              have bwt112 := grown_base Bwt111.out Bwt111.out.size gr OAwt111.out
              have OBwt112 := Lib.hid (OwnR.other OBwt111.out gr OAwt111.out (by decide))
              have KGwt112 := Lib.hid (kept_other KGwt111.out gr OAwt111.out (by decide))
              obtain ⟨Nwt112, nwt112, cwt112, hv, _, _, _, _⟩ := own.row'
              subst hv
              have OAwt112 := Lib.hid own
              have Bwt112 := Lib.hid bwt112
              refine hK.out _ _ (HS6.out _ bwt112) (fun hHeld => ?_)
              clear hK K own gr bwt112 Bwt111 OBwt111 KGwt111 OAwt111
              try go_frame
              refine wpAnyH_ready (rs := [6]) (by kernel_rfl) (by simp) ?_
              refine ready_cons (i := 6) (o := ⟨_, _, _, _, _, _⟩) rfl ?_ AllReadyH.nil
              · intro K hK
                refine call_step (f := 20) (args := #[batV A5 n5 c5 M5 m5 d5]) rfl (by kernel_rfl) ?_
                refine (real13_any A5 n5 c5 M5 m5 d5 _ _ wt112 (BT11.out.below Bwt112.out) hm5).mono ?_; rintro r wt113 ⟨Mrwt113, drwt113, rfl, hbr, hl⟩; have hr := hbr.mr; clear hbr
                have bwt113 := Bwt112.out.trans (hl.mono Bwt112.out.size)
                have OAwt113 := Lib.hid (OwnR.below OAwt112.out hl)
                have OBwt113 := Lib.hid (OwnR.below OBwt112.out hl)
                have KGwt113 := Lib.hid (kb_below KGwt112.out hl)
                have RRwt113 := Lib.hid hr
                have Bwt113 := Lib.hid bwt113
                refine ⟨_, rfl, ?_⟩
                refine hK.out _ _ (HS6.out _ bwt113) (fun hHeld => ?_)
                clear hK K hl hr bwt113 Bwt112 OAwt112 OBwt112 KGwt112
                try go_frame
                refine wpAnyH_take (i := 7) (oi := ⟨_, _, _, _, _, _⟩) (v := ?_) rfl (by kernel_rfl) (by kernel_rfl) (by kernel_rfl) (fun _ _ _ h => h) (Or.inl ⟨by rfl, ?_⟩) (by assumption) ?_
                rotate_left
                · intro w hSw; (try dsimp only at hSw); go_simp; try (with_reducible rfl)
                try go_frame
                refine wpAnyH_ready (rs := [8]) (by kernel_rfl) (by simp) ?_
                refine ready_cons (i := 8) (o := ⟨_, _, _, _, _, _⟩) rfl ?_ AllReadyH.nil
                · intro K hK
                  refine Stepping.mk (appS_step tMR (base := w6.heap.size) rfl (.tmp 43) (.tmp 46) rfl rfl rfl OBwt113.out RRwt113.out LB6.out Bwt113.out.size ?_)
                  intro ywt114 wt114 own gr _
                  have bwt114 := grown_base Bwt113.out Bwt113.out.size gr OBwt113.out
                  have OAwt114 := Lib.hid (OwnR.other OAwt113.out gr OBwt113.out (by decide))
                  have KGwt114 := Lib.hid (kept_other KGwt113.out gr OBwt113.out (by decide))
                  obtain ⟨Nwt114, nwt114, cwt114, hv, _, _, _, _⟩ := own.row'
                  subst hv
                  have OBwt114 := Lib.hid own
                  have Bwt114 := Lib.hid bwt114
                  refine hK.out _ _ (HS6.out _ bwt114) (fun hHeld => ?_)
                  clear hK K own gr bwt114 Bwt113 OAwt113 KGwt113 OBwt113 RRwt113
                  try go_frame
                  refine wpAnyH_take (i := 9) (oi := ⟨_, _, _, _, _, _⟩) (v := ?_) rfl (by kernel_rfl) (by kernel_rfl) (by kernel_rfl) (fun _ _ _ h => h) (Or.inl ⟨by rfl, ?_⟩) (by assumption) ?_
                  rotate_left
                  · intro w hSw; (try dsimp only at hSw); go_simp; try (with_reducible rfl)
                  try go_frame
                  refine wpAnyH_ready (rs := [11]) (by kernel_rfl) (by simp) ?_
                  refine ready_cons (i := 11) (o := ⟨_, _, _, _, _, _⟩) rfl ?_ AllReadyH.nil
                  · intro K hK
                    have TW := twin_store Bwt114.out GLwt94.out KGwt114.out OAwt114.out OBwt114.out (by decide) (by decide)
                    obtain ⟨z0, z1⟩ := bobj_cells KGwt114.out
                    have zf0 := frozen_of KGwt114.out 0
                    have zf1 := frozen_of KGwt114.out 1
                    have HTW := Lib.hid TW
                    clear TW
                    constructor
                    go_simp
                    refine hK.out _ _ (HS6.out _ HTW.out.low) (fun hHeld => ?_)
                    clear hK K
                    refine wpAnyH_done (by kernel_rfl) ?_ _
                    go_wp2
                    go_meet
                    exact ⟨_, _, _, _, _, _, _, rfl, HTW.out⟩
    case rest =>
      obtain ⟨g13, A7, n7, c7, M7, m7, d7, rfl, tw⟩ := hcut
      have h1 := tw.ra.row.1.1
      have h2 := tw.rb.row.1.1
      obtain rfl : n7 = n5 := by have h3 := BT11.out.alen; omega
      obtain rfl : m7 = m5 := by have h3 := BT11.out.mlen; omega
      have K8 := Lib.hid (kb_below K8'.out tw.low)
      have K10 := Lib.hid (kb_below K10'.out tw.low)
      have K11' := Lib.hid (kb_below K11.out tw.low)
      have BT8 := Lib.hid (BT8'.out.below tw.low)
      have W10 := Lib.hid (W10'.out.below tw.low)
      have BT11' := Lib.hid (BT11.out.below tw.low)
      have KY7 := Lib.hid (kb_below KY6.out tw.low)
      have B7 := Lib.hid (B6.out.trans (tw.low.mono B6.out.size))
      have W13 := Lib.hid (tw.bat BT11.out.fits)
      have K13 : Hid (wc.heap[g13]? = some (bobj 25 A7 n7 c7 M7 m7 d7)) := Lib.hid tw.blk
      clear tw h1 h2 K8' K10' K11 BT8' W10' BT11 KY6 B6 HS6 LA6 LB6 hfld6 hg6
      obtain ⟨x0, x1⟩ := bobj_cells K8.out
      have u0 : wc.cell? ⟨w.heap.size + 1, 0, none⟩ = some (.int .i64 ya) := by rw [cell_of KY7.out]; rfl
      have u1 : wc.cell? ⟨w.heap.size + 1, 1, none⟩ = some (.int .i64 yb) := by rw [cell_of KY7.out]; rfl
      have AC := Lib.hid (badd_any A n1 c M m1 d zs ms ya yb 9 wc BT8.out YF.out (by omega) hm1)
      go_wp2_with fail
      clear x0 x1 u0 u1
      refine AC.out.mono ?_
      rintro r w8 ⟨A8, n8, c8, M8, m8, d8, rfl, _, _, l8⟩
      have hs : ∀ wx, Below w8.heap.size w8 wx → (wx.cell? ⟨g8, 0, none⟩ = some (.slice A n1 c) ∧ wx.cell? ⟨g8, 1, none⟩ = some (.slice M m1 d)) ∧ (wx.cell? ⟨g10, 0, none⟩ = some (.slice A1 n1 c1) ∧ wx.cell? ⟨g10, 1, none⟩ = some (.slice M1 m1 d1)) ∧ (wx.cell? ⟨g11, 0, none⟩ = some (.slice A5 n7 c5) ∧ wx.cell? ⟨g11, 1, none⟩ = some (.slice M5 m7 d5)) ∧ (wx.cell? ⟨g13, 0, none⟩ = some (.slice A7 n7 c7) ∧ wx.cell? ⟨g13, 1, none⟩ = some (.slice M7 m7 d7)) :=
        fun wx hb => ⟨cells_later (kb_below K8.out l8) hb, cells_later (kb_below K10.out l8) hb, cells_later (kb_below K11'.out l8) hb, cells_later (kb_below K13.out l8) hb⟩
      have HS := Lib.hid hs
      have X8 := Lib.hid (BT8.out.below l8)
      have X10 := Lib.hid (W10.out.below l8)
      have X11 := Lib.hid (BT11'.out.below l8)
      have X13 := Lib.hid (W13.out.below l8)
      have B8 := Lib.hid (B7.out.trans (l8.mono B7.out.size))
      have D0 : Hid (Below w8.heap.size w8 w8.drew) := Lib.hid (ali_below (drew_ali _))
      clear hs l8 AC K8 K10 K11' K13 BT8 W10 BT11' W13 B7 KY7
      go_wp2
      go_region_held3 (fun wx => (wx.cell? ⟨g8, 0, none⟩ = some (.slice A n1 c) ∧ wx.cell? ⟨g8, 1, none⟩ = some (.slice M m1 d)) ∧ (wx.cell? ⟨g10, 0, none⟩ = some (.slice A1 n1 c1) ∧ wx.cell? ⟨g10, 1, none⟩ = some (.slice M1 m1 d1)) ∧ (wx.cell? ⟨g11, 0, none⟩ = some (.slice A5 n7 c5) ∧ wx.cell? ⟨g11, 1, none⟩ = some (.slice M5 m7 d5)) ∧ (wx.cell? ⟨g13, 0, none⟩ = some (.slice A7 n7 c7) ∧ wx.cell? ⟨g13, 1, none⟩ = some (.slice M7 m7 d7)))
        (first
          | with_reducible exact HS.out _ D0.out
          | with_reducible exact HS.out _ t1
          | with_reducible exact HS.out _ t2
          | with_reducible exact HS.out _ t3
          | with_reducible exact HS.out _ t4
          | fail)
        (first
          | (go_at_call 19; have q3 := t3; refine (rsame_any A5 n7 c5 N3 m7 e3 A7 c7 M7 d7 zs5 ms5 _ r3 (X13.out.below t3)).mono ?_; rintro r v4 ⟨rfl, l4⟩; have t4 := t3.trans (l4.mono t3.size))
          | (go_at_call 20; have q2 := t2; refine (real13_any A5 n7 c5 M5 m7 d5 zs5 ms5 _ (X11.out.below t2) hm5).mono ?_; rintro r v3 ⟨N3, e3, rfl, r3, l3⟩; have t3 := t2.trans (l3.mono t2.size))
          | (go_at_call 19; have q1 := t1; refine (rsame_any A n1 c N1 m1 e1 A1 c1 M1 d1 zs ms _ r1 (X10.out.below t1)).mono ?_; rintro r v2 ⟨rfl, l2⟩; have t2 := t1.trans (l2.mono t1.size))
          | (go_at_call 20; refine (real13_any A n1 c M m1 d zs ms _ (X8.out.below D0.out) hm1).mono ?_; rintro r v1 ⟨N1, e1, rfl, r1, l1⟩; have t1 := D0.out.trans (l1.mono D0.out.size)))
      go_wp2
      go_ret
      exact ⟨rfl, B8.out.trans (t4.mono B8.out.size)⟩

set_option maxRecDepth 100000 in
theorem lifted (os : Os) (started : os.Started) (H : Type) (enc : TypeId × Value → H) :
    ReturnsInHanded {} Try.checked os 4 .any (Rows.batchApartSpec.pre6 enc Try.prog Try.f4 Rows.batchApartRow.domain false) (Rows.batchApartSpec.post enc Try.prog Try.f4 false true false false) := by
  refine returnsInHanded_of_change_sized (C := Try.checked) own started (by kernel_rfl) Try.func4
    (ChangeSpec.witness6 (enc := enc) (C := Try.checked) false ⟨#[], #[.slice none 0 0, .agg #[.int .i64 0, .int .i64 0], .agg #[.int .i64 0, .int .i64 0]], []⟩ 8 (by kernel_rfl) (by kernel_rfl) (by kernel_rfl) (by kernel_rfl)) ?_
  intro W base args ds gs before hval0 hW hcnd hsz0 _
  have hval : ∀ (j : Nat) t v, Try.f4.params[j]? = some t → args[j]? = some v → Value.okWide Try.prog W .any base t v := hval0
  have hsz : (DataW.weightsEach Try.prog (Try.f4.params.toList ++ Rows.batchApartSpec.plain.varTypes Try.prog) (ds ++ gs)).all (· ≤ reachBytes) = true := hsz0
  have hW' := hW
  obtain ⟨p, q, hA0, hV, rfl, hfz, hnd⟩ := hW
  have hA : DataW.TrodAll enc Try.prog W 0 (fun _ => true) true Try.f4.params.toList args.toList ds p := hA0
  rw [Try.params4] at hA hval hsz
  have hAk := hA
  obtain ⟨v0, vs0, d0, ds0, p0, q0, hargs, rfl, rfl, h0, r0⟩ := trodAll_cons hA
  obtain ⟨v1, vs1, d1, ds1, p1, q1, rfl, rfl, rfl, h1, r1⟩ := trodAll_cons r0
  obtain ⟨v2, vs2, d2, ds2, p2, q2, rfl, rfl, rfl, h2, r2⟩ := trodAll_cons r1
  obtain ⟨rfl, rfl, rfl⟩ := trodAll_nil r2
  obtain rfl : args = #[v0, v1, v2] := by cases args; simp_all
  obtain ⟨rfl, rfl⟩ := trodVars_none hV
  obtain ⟨a0, l0, k0, L0, rfl, w0⟩ := open_slice_flat (ks := [.int .i64, .int .i64]) (bytes := 16) 8 Try.underlying54 (by kernel_rfl) (by kernel_rfl) (by decide) (by kernel_rfl) (hval 0 54 v0 rfl rfl) h0 (fun elems rest hd => by subst hd; exact sized_slice hsz (j := 0) (t := 54) (e := 56) rfl rfl Try.underlying54)
  obtain ⟨c1, rfl, w1⟩ := open_flat (ks := [.int .i64, .int .i64]) 8 (by kernel_rfl) (by kernel_rfl) (hval 1 56 v1 rfl rfl) h1
  obtain ⟨c2, rfl, w2⟩ := open_flat (ks := [.int .i64, .int .i64]) 8 (by kernel_rfl) (by kernel_rfl) (hval 2 56 v2 rfl rfl) h2
  clear hA0 hval0 hsz0
  refine (walk W a0 l0 k0 L0 w0 c1 w1 c2 w2).mono fun e W' ⟨he, bel⟩ => ?_
  subst he
  exact ⟨_, rfl, _, _, _, [], _, [], hW', trodAll_mk1 (shut_bool Try.underlying4 _), trodAll_below laidOut bel _ _ _ _ (by kernel_rfl) hAk, rfl, bel.frame _, fun h => by cases h⟩

theorem over : Rows.batchApartRow.holds Try.pinned (OpenSpec.ofChange Rows.batchApartSpec) :=
  OpenClaim.holds_of_wide 4 Try.f4 rfl rfl rfl rfl rfl rfl rfl ⟨rfl, rfl, rfl, rfl, rfl⟩ rfl rfl rfl rfl rfl (by kernel_rfl) Try.func4 (by kernel_rfl)
    (of_decide_eq_true (by kernel_rfl)) (by unfold Func.isWrapper; first | (rw [if_pos (by decide +kernel)]; kernel_rfl) | (rw [if_neg (by decide +kernel)]; exact ⟨rfl, rfl⟩))
    (fun os started H enc _ => lifted os started H enc)

theorem proved : Rows.BatchApartSaid := over
#print axioms proved
end Go.Proofs.Ythldhcjkjchbpaa.batchApart
