/- Layer 13: the document's Add. Written by wip/tools/gen_ref13c.py. -/
import Derived.Test.YtpfmjocpgnoepaaRef13b
import Derived.Test.YtpfmjocpgnoepaaTwin
import Derived.Test.YtpfmjocpgnoepaaHand
import Derived.Deep.DeepCutAuto
namespace Go.Proofs.Ytpfmjocpgnoepaa
set_option linter.unusedVariables false
open Go.ChangeShapes Go.WideShapes Go.ChangeAt Go.RowKit

set_option maxRecDepth 100000 in
set_option maxHeartbeats 4000000 in
theorem bradd_fr (A : Option Addr) (n c : Nat) (M : Option Addr) (m d : Nat) (zs : List Int) (ms : List P2) (id x most : Int) (w : World) (h : Bat w A n c M m d zs ms) (hid : wf64 id) (hn : n ≤ 1000) (hm : m ≤ 1000) :
    Calls Try.prog 33 #[batV A n c M m d, .int .i64 id, .int .i64 x, .int .i64 most] w fun r w' => ∃ A' n' c' M' m' d', r = .returned (.tuple #[batV A' n' c' M' m' d', .bool (addY zs x most)]) ∧ Bat w' A' n' c' M' m' d' (addA zs x most) (addM zs ms id x most) ∧ ((Fresh w.heap.size A' ∧ Fresh w.heap.size M') ∨ (A' = A ∧ M' = M ∧ n' = n ∧ m' = m)) ∧ Below w.heap.size w w' := by
  obtain ⟨W, hW, bW, k1, k2, sW⟩ := two_new w (bobj 25 A n c M m d) (bobj 25 none 0 0 none 0 0)
  have BW := Lib.hid bW
  have K1 := Lib.hid k1
  have K2 := Lib.hid k2
  have SW := Lib.hid sW
  have HB := Lib.hid (h.below bW)
  have AL := Lib.hid h.alen
  have MLn := Lib.hid h.mlen
  have HS : Hid (∀ wx, Below W.heap.size W wx → wx.cell? ⟨w.heap.size, 0, none⟩ = some (.slice A n c) ∧ wx.cell? ⟨w.heap.size, 1, none⟩ = some (.slice M m d)) := Lib.hid (fun wx hb => cells_later k1 hb)
  have LA : Hid (([] : List Int).length + n ≤ 1048576) := Lib.hid (by simp; omega)
  have LB : Hid (([] : List P2).length + m ≤ 1048576) := Lib.hid (by simp; omega)
  have HA := Lib.hid (rat_any A n c x zs W (h.below bW).ar)
  obtain ⟨q, hq⟩ : ∃ q, zs.idxOf x = q := ⟨_, rfl⟩
  rw [hq] at HA
  have HQ := Lib.hid hq
  have HI := Lib.hid hid
  obtain ⟨x0, x1⟩ := bobj_cells k1
  clear bW k1 k2 sW h hq hid
  go_enter Try.func33, Try.ntmps33
  go_wp2_with (first
    | (go_at_call 60; refine HA.out.mono ?_; rintro r w2 ⟨rfl, rfl⟩))
  clear hW x0 x1 HA
  go_cut [11] (fun v11 wq => ∃ (g : Nat) (A1 : Option Addr) (n1 c1 : Nat) (M1 : Option Addr) (m1 d1 : Nat), v11 = .pointer (some ⟨g, 0, none⟩) ∧ Twin irec prec W wq 25 3 61 g (.slice A1 n1 c1) (.slice M1 m1 d1) zs ms)
  case first =>
    refine wp_region_held_drew (S := fun wx => wx.cell? ⟨w.heap.size, 0, none⟩ = some (.slice A n c) ∧ wx.cell? ⟨w.heap.size, 1, none⟩ = some (.slice M m d)) (by kernel_rfl) (HS.out _ (ali_below (drew_ali W))) (fun hHeld => ?_)
    have Bwt0 : Hid (Below W.heap.size W W.drew) := Lib.hid (ali_below (drew_ali _))
    generalize W.drew = wt0 at *
    refine wpAnyH_take (i := 1) (oi := ⟨_, _, _, _, _, _⟩) (v := ?_) rfl (by kernel_rfl) (by kernel_rfl) (by kernel_rfl) (fun _ _ _ h => h) (Or.inl ⟨by rfl, ?_⟩) (by assumption) ?_
    rotate_left
    · intro w hSw; (try dsimp only at hSw); go_simp; try (with_reducible rfl)
    try go_frame
    refine wpAnyH_take (i := 2) (oi := ⟨_, _, _, _, _, _⟩) (v := ?_) rfl (by kernel_rfl) (by kernel_rfl) (by kernel_rfl) (fun _ _ _ h => h) (Or.inl ⟨by rfl, ?_⟩) (by assumption) ?_
    rotate_left
    · intro w hSw; (try dsimp only at hSw); go_simp; try (with_reducible rfl)
    try go_frame
    refine wpAnyH_take (i := 5) (oi := ⟨_, _, _, _, _, _⟩) (v := ?_) rfl (by kernel_rfl) (by kernel_rfl) (by kernel_rfl) (fun _ _ _ h => h) (Or.inl ⟨by rfl, ?_⟩) (by assumption) ?_
    rotate_left
    · intro w hSw; (try dsimp only at hSw); go_simp; try (with_reducible rfl)
    try go_frame
    refine wpAnyH_take (i := 6) (oi := ⟨_, _, _, _, _, _⟩) (v := ?_) rfl (by kernel_rfl) (by kernel_rfl) (by kernel_rfl) (fun _ _ _ h => h) (Or.inl ⟨by rfl, ?_⟩) (by assumption) ?_
    rotate_left
    · intro w hSw; (try dsimp only at hSw); go_simp; try (with_reducible rfl)
    try go_frame
    refine wpAnyH_ready (rs := [0, 4, 9]) (by kernel_rfl) (by simp) ?_
    refine ready_cons (i := 0) (o := ⟨_, _, _, _, _, _⟩) rfl ?_ (ready_cons (i := 4) (o := ⟨_, _, _, _, _, _⟩) rfl ?_ (ready_cons (i := 9) (o := ⟨_, _, _, _, _, _⟩) rfl ?_ AllReadyH.nil))
    · intro K hK
      constructor
      go_simp
      have bwt1 := Bwt0.out.alloc Bwt0.out.size (.cells #[] 3)
      refine hK.out _ _ (HS.out _ bwt1) (fun hHeld => ?_)
      have Bwt1 := Lib.hid bwt1
      have OAwt1 := Lib.hid (OwnR.empty (R := irec) wt0 3 (base := W.heap.size) Bwt0.out.size)
      clear hK K hHeld bwt1 Bwt0 
      generalize wt0.heap.size = gwt1 at OAwt1 ⊢
      generalize wt0.alloc (.cells #[] 3) = wt1 at OAwt1 Bwt1 ⊢
      refine wpAnyH_ready (rs := [3, 4, 9]) (by kernel_rfl) (by simp) ?_
      refine ready_cons (i := 3) (o := ⟨_, _, _, _, _, _⟩) rfl ?_ (ready_cons (i := 4) (o := ⟨_, _, _, _, _, _⟩) rfl ?_ (ready_cons (i := 9) (o := ⟨_, _, _, _, _, _⟩) rfl ?_ AllReadyH.nil))
      · intro K hK
        refine Stepping.mk (appS_step tI (base := W.heap.size) rfl (.tmp 16) (.tmp 18) rfl rfl rfl OAwt1.out (HB.out.below Bwt1.out).ar LA.out Bwt1.out.size ?_)
        intro ywt2 wt2 own gr _
        have bwt2 := grown_base Bwt1.out Bwt1.out.size gr OAwt1.out
        obtain ⟨Nwt2, nwt2, cwt2, hv, _, _, _, _⟩ := own.row'
        subst hv
        have OAwt2 := Lib.hid own
        have Bwt2 := Lib.hid bwt2
        refine hK.out _ _ (HS.out _ bwt2) (fun hHeld => ?_)
        clear hK K own gr bwt2 Bwt1 OAwt1
        try go_frame
        refine wpAnyH_ready (rs := [4, 9]) (by kernel_rfl) (by simp) ?_
        refine ready_cons (i := 4) (o := ⟨_, _, _, _, _, _⟩) rfl ?_ (ready_cons (i := 9) (o := ⟨_, _, _, _, _, _⟩) rfl ?_ AllReadyH.nil)
        · intro K hK
          constructor
          go_simp
          have bwt3 := Bwt2.out.alloc Bwt2.out.size (.cells #[] 61)
          refine hK.out _ _ (HS.out _ bwt3) (fun hHeld => ?_)
          have Bwt3 := Lib.hid bwt3
          have OAwt3 := Lib.hid (OwnR.alloc OAwt2.out (.cells #[] 61))
          have OBwt3 := Lib.hid (OwnR.empty (R := prec) wt2 61 (base := W.heap.size) Bwt2.out.size)
          clear hK K hHeld bwt3 Bwt2 OAwt2
          generalize wt2.heap.size = gwt3 at OAwt3 OBwt3 ⊢
          generalize wt2.alloc (.cells #[] 61) = wt3 at OAwt3 OBwt3 Bwt3 ⊢
          refine wpAnyH_ready (rs := [7, 9]) (by kernel_rfl) (by simp) ?_
          refine ready_cons (i := 7) (o := ⟨_, _, _, _, _, _⟩) rfl ?_ (ready_cons (i := 9) (o := ⟨_, _, _, _, _, _⟩) rfl ?_ AllReadyH.nil)
          · intro K hK
            refine Stepping.mk (appS_step tMR (base := W.heap.size) rfl (.tmp 20) (.tmp 22) rfl rfl rfl OBwt3.out (HB.out.below Bwt3.out).mr LB.out Bwt3.out.size ?_)
            intro ywt4 wt4 own gr _
            have bwt4 := grown_base Bwt3.out Bwt3.out.size gr OBwt3.out
            have OAwt4 := Lib.hid (OwnR.other OAwt3.out gr OBwt3.out (by decide))
            obtain ⟨Nwt4, nwt4, cwt4, hv, _, _, _, _⟩ := own.row'
            subst hv
            have OBwt4 := Lib.hid own
            have Bwt4 := Lib.hid bwt4
            refine hK.out _ _ (HS.out _ bwt4) (fun hHeld => ?_)
            clear hK K own gr bwt4 Bwt3 OAwt3 OBwt3
            try go_frame
            refine wpAnyH_take (i := 8) (oi := ⟨_, _, _, _, _, _⟩) (v := ?_) rfl (by kernel_rfl) (by kernel_rfl) (by kernel_rfl) (fun _ _ _ h => h) (Or.inl ⟨by rfl, ?_⟩) (by assumption) ?_
            rotate_left
            · intro w hSw; (try dsimp only at hSw); go_simp; try (with_reducible rfl)
            try go_frame
            refine wpAnyH_ready (rs := [9]) (by kernel_rfl) (by simp) ?_
            refine ready_cons (i := 9) (o := ⟨_, _, _, _, _, _⟩) rfl ?_ AllReadyH.nil
            · intro K hK
              constructor
              go_simp
              have bwt5 := Bwt4.out.alloc Bwt4.out.size (bobj 25 none 0 0 none 0 0)
              refine hK.out _ _ (HS.out _ bwt5) (fun hHeld => ?_)
              have Bwt5 := Lib.hid bwt5
              have OAwt5 := Lib.hid (OwnR.alloc OAwt4.out (bobj 25 none 0 0 none 0 0))
              have OBwt5 := Lib.hid (OwnR.alloc OBwt4.out (bobj 25 none 0 0 none 0 0))
              have KGwt5 := Lib.hid (heap_alloc_at wt4 (bobj 25 none 0 0 none 0 0))
              have GLwt5 : Hid (W.heap.size ≤ wt4.heap.size) := Lib.hid Bwt4.out.size
              clear hK K hHeld bwt5 Bwt4 OAwt4 OBwt4
              generalize wt4.heap.size = gwt5 at OAwt5 OBwt5 KGwt5 GLwt5 ⊢
              generalize wt4.alloc (bobj 25 none 0 0 none 0 0) = wt5 at OAwt5 OBwt5 KGwt5 GLwt5 Bwt5 ⊢
              refine wpAnyH_ready (rs := [10]) (by kernel_rfl) (by simp) ?_
              refine ready_cons (i := 10) (o := ⟨_, _, _, _, _, _⟩) rfl ?_ AllReadyH.nil
              · intro K hK
                have TW := twin_store Bwt5.out GLwt5.out KGwt5.out OAwt5.out OBwt5.out (by decide) (by decide)
                obtain ⟨z0, z1⟩ := bobj_cells KGwt5.out
                have zf0 := frozen_of KGwt5.out 0
                have zf1 := frozen_of KGwt5.out 1
                have HTW := Lib.hid TW
                clear TW
                constructor
                go_simp
                refine hK.out _ _ (HS.out _ HTW.out.low) (fun hHeld => ?_)
                clear hK K
                refine wpAnyH_done (by kernel_rfl) ?_ _
                go_wp2
                go_meet
                exact ⟨_, _, _, _, _, _, _, rfl, HTW.out⟩
          · intro K hK
            constructor
            go_simp
            have bwt7 := Bwt3.out.alloc Bwt3.out.size (bobj 25 none 0 0 none 0 0)
            refine hK.out _ _ (HS.out _ bwt7) (fun hHeld => ?_)
            have Bwt7 := Lib.hid bwt7
            have OAwt7 := Lib.hid (OwnR.alloc OAwt3.out (bobj 25 none 0 0 none 0 0))
            have OBwt7 := Lib.hid (OwnR.alloc OBwt3.out (bobj 25 none 0 0 none 0 0))
            have KGwt7 := Lib.hid (heap_alloc_at wt3 (bobj 25 none 0 0 none 0 0))
            have GLwt7 : Hid (W.heap.size ≤ wt3.heap.size) := Lib.hid Bwt3.out.size
            clear hK K hHeld bwt7 Bwt3 OAwt3 OBwt3
            generalize wt3.heap.size = gwt7 at OAwt7 OBwt7 KGwt7 GLwt7 ⊢
            generalize wt3.alloc (bobj 25 none 0 0 none 0 0) = wt7 at OAwt7 OBwt7 KGwt7 GLwt7 Bwt7 ⊢
            refine wpAnyH_ready (rs := [7]) (by kernel_rfl) (by simp) ?_
            refine ready_cons (i := 7) (o := ⟨_, _, _, _, _, _⟩) rfl ?_ AllReadyH.nil
            · intro K hK
              refine Stepping.mk (appS_step tMR (base := W.heap.size) rfl (.tmp 20) (.tmp 22) rfl rfl rfl OBwt7.out (HB.out.below Bwt7.out).mr LB.out Bwt7.out.size ?_)
              intro ywt8 wt8 own gr _
              have bwt8 := grown_base Bwt7.out Bwt7.out.size gr OBwt7.out
              have OAwt8 := Lib.hid (OwnR.other OAwt7.out gr OBwt7.out (by decide))
              have KGwt8 := Lib.hid (kept_other KGwt7.out gr OBwt7.out (by decide))
              obtain ⟨Nwt8, nwt8, cwt8, hv, _, _, _, _⟩ := own.row'
              subst hv
              have OBwt8 := Lib.hid own
              have Bwt8 := Lib.hid bwt8
              refine hK.out _ _ (HS.out _ bwt8) (fun hHeld => ?_)
              clear hK K own gr bwt8 Bwt7 OAwt7 KGwt7 OBwt7
              try go_frame
              refine wpAnyH_take (i := 8) (oi := ⟨_, _, _, _, _, _⟩) (v := ?_) rfl (by kernel_rfl) (by kernel_rfl) (by kernel_rfl) (fun _ _ _ h => h) (Or.inl ⟨by rfl, ?_⟩) (by assumption) ?_
              rotate_left
              · intro w hSw; (try dsimp only at hSw); go_simp; try (with_reducible rfl)
              try go_frame
              refine wpAnyH_ready (rs := [10]) (by kernel_rfl) (by simp) ?_
              refine ready_cons (i := 10) (o := ⟨_, _, _, _, _, _⟩) rfl ?_ AllReadyH.nil
              · intro K hK
                have TW := twin_store Bwt8.out GLwt7.out KGwt8.out OAwt8.out OBwt8.out (by decide) (by decide)
                obtain ⟨z0, z1⟩ := bobj_cells KGwt8.out
                have zf0 := frozen_of KGwt8.out 0
                have zf1 := frozen_of KGwt8.out 1
                have HTW := Lib.hid TW
                clear TW
                constructor
                go_simp
                refine hK.out _ _ (HS.out _ HTW.out.low) (fun hHeld => ?_)
                clear hK K
                refine wpAnyH_done (by kernel_rfl) ?_ _
                go_wp2
                go_meet
                exact ⟨_, _, _, _, _, _, _, rfl, HTW.out⟩
        · intro K hK
          constructor
          go_simp
          have bwt10 := Bwt2.out.alloc Bwt2.out.size (bobj 25 none 0 0 none 0 0)
          refine hK.out _ _ (HS.out _ bwt10) (fun hHeld => ?_)
          have Bwt10 := Lib.hid bwt10
          have OAwt10 := Lib.hid (OwnR.alloc OAwt2.out (bobj 25 none 0 0 none 0 0))
          have KGwt10 := Lib.hid (heap_alloc_at wt2 (bobj 25 none 0 0 none 0 0))
          have GLwt10 : Hid (W.heap.size ≤ wt2.heap.size) := Lib.hid Bwt2.out.size
          clear hK K hHeld bwt10 Bwt2 OAwt2
          generalize wt2.heap.size = gwt10 at OAwt10 KGwt10 GLwt10 ⊢
          generalize wt2.alloc (bobj 25 none 0 0 none 0 0) = wt10 at OAwt10 KGwt10 GLwt10 Bwt10 ⊢
          refine wpAnyH_ready (rs := [4]) (by kernel_rfl) (by simp) ?_
          refine ready_cons (i := 4) (o := ⟨_, _, _, _, _, _⟩) rfl ?_ AllReadyH.nil
          · intro K hK
            constructor
            go_simp
            have bwt11 := Bwt10.out.alloc Bwt10.out.size (.cells #[] 61)
            refine hK.out _ _ (HS.out _ bwt11) (fun hHeld => ?_)
            have Bwt11 := Lib.hid bwt11
            have OAwt11 := Lib.hid (OwnR.alloc OAwt10.out (.cells #[] 61))
            have KGwt11 := Lib.hid (kb_alloc KGwt10.out (.cells #[] 61))
            have OBwt11 := Lib.hid (OwnR.empty (R := prec) wt10 61 (base := W.heap.size) Bwt10.out.size)
            clear hK K hHeld bwt11 Bwt10 OAwt10 KGwt10
            generalize wt10.heap.size = gwt11 at OAwt11 OBwt11 KGwt11 GLwt10 ⊢
            generalize wt10.alloc (.cells #[] 61) = wt11 at OAwt11 OBwt11 KGwt11 GLwt10 Bwt11 ⊢
            refine wpAnyH_ready (rs := [7]) (by kernel_rfl) (by simp) ?_
            refine ready_cons (i := 7) (o := ⟨_, _, _, _, _, _⟩) rfl ?_ AllReadyH.nil
            · intro K hK
              refine Stepping.mk (appS_step tMR (base := W.heap.size) rfl (.tmp 20) (.tmp 22) rfl rfl rfl OBwt11.out (HB.out.below Bwt11.out).mr LB.out Bwt11.out.size ?_)
              intro ywt12 wt12 own gr _
              have bwt12 := grown_base Bwt11.out Bwt11.out.size gr OBwt11.out
              have OAwt12 := Lib.hid (OwnR.other OAwt11.out gr OBwt11.out (by decide))
              have KGwt12 := Lib.hid (kept_other KGwt11.out gr OBwt11.out (by decide))
              obtain ⟨Nwt12, nwt12, cwt12, hv, _, _, _, _⟩ := own.row'
              subst hv
              have OBwt12 := Lib.hid own
              have Bwt12 := Lib.hid bwt12
              refine hK.out _ _ (HS.out _ bwt12) (fun hHeld => ?_)
              clear hK K own gr bwt12 Bwt11 OAwt11 KGwt11 OBwt11
              try go_frame
              refine wpAnyH_take (i := 8) (oi := ⟨_, _, _, _, _, _⟩) (v := ?_) rfl (by kernel_rfl) (by kernel_rfl) (by kernel_rfl) (fun _ _ _ h => h) (Or.inl ⟨by rfl, ?_⟩) (by assumption) ?_
              rotate_left
              · intro w hSw; (try dsimp only at hSw); go_simp; try (with_reducible rfl)
              try go_frame
              refine wpAnyH_ready (rs := [10]) (by kernel_rfl) (by simp) ?_
              refine ready_cons (i := 10) (o := ⟨_, _, _, _, _, _⟩) rfl ?_ AllReadyH.nil
              · intro K hK
                have TW := twin_store Bwt12.out GLwt10.out KGwt12.out OAwt12.out OBwt12.out (by decide) (by decide)
                obtain ⟨z0, z1⟩ := bobj_cells KGwt12.out
                have zf0 := frozen_of KGwt12.out 0
                have zf1 := frozen_of KGwt12.out 1
                have HTW := Lib.hid TW
                clear TW
                constructor
                go_simp
                refine hK.out _ _ (HS.out _ HTW.out.low) (fun hHeld => ?_)
                clear hK K
                refine wpAnyH_done (by kernel_rfl) ?_ _
                go_wp2
                go_meet
                exact ⟨_, _, _, _, _, _, _, rfl, HTW.out⟩
      · intro K hK
        constructor
        go_simp
        have bwt14 := Bwt1.out.alloc Bwt1.out.size (.cells #[] 61)
        refine hK.out _ _ (HS.out _ bwt14) (fun hHeld => ?_)
        have Bwt14 := Lib.hid bwt14
        have OAwt14 := Lib.hid (OwnR.alloc OAwt1.out (.cells #[] 61))
        have OBwt14 := Lib.hid (OwnR.empty (R := prec) wt1 61 (base := W.heap.size) Bwt1.out.size)
        clear hK K hHeld bwt14 Bwt1 OAwt1
        generalize wt1.heap.size = gwt14 at OAwt14 OBwt14 ⊢
        generalize wt1.alloc (.cells #[] 61) = wt14 at OAwt14 OBwt14 Bwt14 ⊢
        refine wpAnyH_ready (rs := [3, 9]) (by kernel_rfl) (by simp) ?_
        refine ready_cons (i := 3) (o := ⟨_, _, _, _, _, _⟩) rfl ?_ (ready_cons (i := 9) (o := ⟨_, _, _, _, _, _⟩) rfl ?_ AllReadyH.nil)
        · intro K hK
          refine Stepping.mk (appS_step tI (base := W.heap.size) rfl (.tmp 16) (.tmp 18) rfl rfl rfl OAwt14.out (HB.out.below Bwt14.out).ar LA.out Bwt14.out.size ?_)
          intro ywt15 wt15 own gr _
          have bwt15 := grown_base Bwt14.out Bwt14.out.size gr OAwt14.out
          have OBwt15 := Lib.hid (OwnR.other OBwt14.out gr OAwt14.out (by decide))
          obtain ⟨Nwt15, nwt15, cwt15, hv, _, _, _, _⟩ := own.row'
          subst hv
          have OAwt15 := Lib.hid own
          have Bwt15 := Lib.hid bwt15
          refine hK.out _ _ (HS.out _ bwt15) (fun hHeld => ?_)
          clear hK K own gr bwt15 Bwt14 OBwt14 OAwt14
          try go_frame
          refine wpAnyH_ready (rs := [7, 9]) (by kernel_rfl) (by simp) ?_
          refine ready_cons (i := 7) (o := ⟨_, _, _, _, _, _⟩) rfl ?_ (ready_cons (i := 9) (o := ⟨_, _, _, _, _, _⟩) rfl ?_ AllReadyH.nil)
          · intro K hK
            refine Stepping.mk (appS_step tMR (base := W.heap.size) rfl (.tmp 20) (.tmp 22) rfl rfl rfl OBwt15.out (HB.out.below Bwt15.out).mr LB.out Bwt15.out.size ?_)
            intro ywt16 wt16 own gr _
            have bwt16 := grown_base Bwt15.out Bwt15.out.size gr OBwt15.out
            have OAwt16 := Lib.hid (OwnR.other OAwt15.out gr OBwt15.out (by decide))
            obtain ⟨Nwt16, nwt16, cwt16, hv, _, _, _, _⟩ := own.row'
            subst hv
            have OBwt16 := Lib.hid own
            have Bwt16 := Lib.hid bwt16
            refine hK.out _ _ (HS.out _ bwt16) (fun hHeld => ?_)
            clear hK K own gr bwt16 Bwt15 OAwt15 OBwt15
            try go_frame
            refine wpAnyH_take (i := 8) (oi := ⟨_, _, _, _, _, _⟩) (v := ?_) rfl (by kernel_rfl) (by kernel_rfl) (by kernel_rfl) (fun _ _ _ h => h) (Or.inl ⟨by rfl, ?_⟩) (by assumption) ?_
            rotate_left
            · intro w hSw; (try dsimp only at hSw); go_simp; try (with_reducible rfl)
            try go_frame
            refine wpAnyH_ready (rs := [9]) (by kernel_rfl) (by simp) ?_
            refine ready_cons (i := 9) (o := ⟨_, _, _, _, _, _⟩) rfl ?_ AllReadyH.nil
            · intro K hK
              constructor
              go_simp
              have bwt17 := Bwt16.out.alloc Bwt16.out.size (bobj 25 none 0 0 none 0 0)
              refine hK.out _ _ (HS.out _ bwt17) (fun hHeld => ?_)
              have Bwt17 := Lib.hid bwt17
              have OAwt17 := Lib.hid (OwnR.alloc OAwt16.out (bobj 25 none 0 0 none 0 0))
              have OBwt17 := Lib.hid (OwnR.alloc OBwt16.out (bobj 25 none 0 0 none 0 0))
              have KGwt17 := Lib.hid (heap_alloc_at wt16 (bobj 25 none 0 0 none 0 0))
              have GLwt17 : Hid (W.heap.size ≤ wt16.heap.size) := Lib.hid Bwt16.out.size
              clear hK K hHeld bwt17 Bwt16 OAwt16 OBwt16
              generalize wt16.heap.size = gwt17 at OAwt17 OBwt17 KGwt17 GLwt17 ⊢
              generalize wt16.alloc (bobj 25 none 0 0 none 0 0) = wt17 at OAwt17 OBwt17 KGwt17 GLwt17 Bwt17 ⊢
              refine wpAnyH_ready (rs := [10]) (by kernel_rfl) (by simp) ?_
              refine ready_cons (i := 10) (o := ⟨_, _, _, _, _, _⟩) rfl ?_ AllReadyH.nil
              · intro K hK
                have TW := twin_store Bwt17.out GLwt17.out KGwt17.out OAwt17.out OBwt17.out (by decide) (by decide)
                obtain ⟨z0, z1⟩ := bobj_cells KGwt17.out
                have zf0 := frozen_of KGwt17.out 0
                have zf1 := frozen_of KGwt17.out 1
                have HTW := Lib.hid TW
                clear TW
                constructor
                go_simp
                refine hK.out _ _ (HS.out _ HTW.out.low) (fun hHeld => ?_)
                clear hK K
                refine wpAnyH_done (by kernel_rfl) ?_ _
                go_wp2
                go_meet
                exact ⟨_, _, _, _, _, _, _, rfl, HTW.out⟩
          · intro K hK
            constructor
            go_simp
            have bwt19 := Bwt15.out.alloc Bwt15.out.size (bobj 25 none 0 0 none 0 0)
            refine hK.out _ _ (HS.out _ bwt19) (fun hHeld => ?_)
            have Bwt19 := Lib.hid bwt19
            have OAwt19 := Lib.hid (OwnR.alloc OAwt15.out (bobj 25 none 0 0 none 0 0))
            have OBwt19 := Lib.hid (OwnR.alloc OBwt15.out (bobj 25 none 0 0 none 0 0))
            have KGwt19 := Lib.hid (heap_alloc_at wt15 (bobj 25 none 0 0 none 0 0))
            have GLwt19 : Hid (W.heap.size ≤ wt15.heap.size) := Lib.hid Bwt15.out.size
            clear hK K hHeld bwt19 Bwt15 OAwt15 OBwt15
            generalize wt15.heap.size = gwt19 at OAwt19 OBwt19 KGwt19 GLwt19 ⊢
            generalize wt15.alloc (bobj 25 none 0 0 none 0 0) = wt19 at OAwt19 OBwt19 KGwt19 GLwt19 Bwt19 ⊢
            refine wpAnyH_ready (rs := [7]) (by kernel_rfl) (by simp) ?_
            refine ready_cons (i := 7) (o := ⟨_, _, _, _, _, _⟩) rfl ?_ AllReadyH.nil
            · intro K hK
              refine Stepping.mk (appS_step tMR (base := W.heap.size) rfl (.tmp 20) (.tmp 22) rfl rfl rfl OBwt19.out (HB.out.below Bwt19.out).mr LB.out Bwt19.out.size ?_)
              intro ywt20 wt20 own gr _
              have bwt20 := grown_base Bwt19.out Bwt19.out.size gr OBwt19.out
              have OAwt20 := Lib.hid (OwnR.other OAwt19.out gr OBwt19.out (by decide))
              have KGwt20 := Lib.hid (kept_other KGwt19.out gr OBwt19.out (by decide))
              obtain ⟨Nwt20, nwt20, cwt20, hv, _, _, _, _⟩ := own.row'
              subst hv
              have OBwt20 := Lib.hid own
              have Bwt20 := Lib.hid bwt20
              refine hK.out _ _ (HS.out _ bwt20) (fun hHeld => ?_)
              clear hK K own gr bwt20 Bwt19 OAwt19 KGwt19 OBwt19
              try go_frame
              refine wpAnyH_take (i := 8) (oi := ⟨_, _, _, _, _, _⟩) (v := ?_) rfl (by kernel_rfl) (by kernel_rfl) (by kernel_rfl) (fun _ _ _ h => h) (Or.inl ⟨by rfl, ?_⟩) (by assumption) ?_
              rotate_left
              · intro w hSw; (try dsimp only at hSw); go_simp; try (with_reducible rfl)
              try go_frame
              refine wpAnyH_ready (rs := [10]) (by kernel_rfl) (by simp) ?_
              refine ready_cons (i := 10) (o := ⟨_, _, _, _, _, _⟩) rfl ?_ AllReadyH.nil
              · intro K hK
                have TW := twin_store Bwt20.out GLwt19.out KGwt20.out OAwt20.out OBwt20.out (by decide) (by decide)
                obtain ⟨z0, z1⟩ := bobj_cells KGwt20.out
                have zf0 := frozen_of KGwt20.out 0
                have zf1 := frozen_of KGwt20.out 1
                have HTW := Lib.hid TW
                clear TW
                constructor
                go_simp
                refine hK.out _ _ (HS.out _ HTW.out.low) (fun hHeld => ?_)
                clear hK K
                refine wpAnyH_done (by kernel_rfl) ?_ _
                go_wp2
                go_meet
                exact ⟨_, _, _, _, _, _, _, rfl, HTW.out⟩
        · intro K hK
          constructor
          go_simp
          have bwt22 := Bwt14.out.alloc Bwt14.out.size (bobj 25 none 0 0 none 0 0)
          refine hK.out _ _ (HS.out _ bwt22) (fun hHeld => ?_)
          have Bwt22 := Lib.hid bwt22
          have OAwt22 := Lib.hid (OwnR.alloc OAwt14.out (bobj 25 none 0 0 none 0 0))
          have OBwt22 := Lib.hid (OwnR.alloc OBwt14.out (bobj 25 none 0 0 none 0 0))
          have KGwt22 := Lib.hid (heap_alloc_at wt14 (bobj 25 none 0 0 none 0 0))
          have GLwt22 : Hid (W.heap.size ≤ wt14.heap.size) := Lib.hid Bwt14.out.size
          clear hK K hHeld bwt22 Bwt14 OAwt14 OBwt14
          generalize wt14.heap.size = gwt22 at OAwt22 OBwt22 KGwt22 GLwt22 ⊢
          generalize wt14.alloc (bobj 25 none 0 0 none 0 0) = wt22 at OAwt22 OBwt22 KGwt22 GLwt22 Bwt22 ⊢
          refine wpAnyH_ready (rs := [3]) (by kernel_rfl) (by simp) ?_
          refine ready_cons (i := 3) (o := ⟨_, _, _, _, _, _⟩) rfl ?_ AllReadyH.nil
          · intro K hK
            refine Stepping.mk (appS_step tI (base := W.heap.size) rfl (.tmp 16) (.tmp 18) rfl rfl rfl OAwt22.out (HB.out.below Bwt22.out).ar LA.out Bwt22.out.size ?_)
            intro ywt23 wt23 own gr _
            have bwt23 := grown_base Bwt22.out Bwt22.out.size gr OAwt22.out
            have OBwt23 := Lib.hid (OwnR.other OBwt22.out gr OAwt22.out (by decide))
            have KGwt23 := Lib.hid (kept_other KGwt22.out gr OAwt22.out (by decide))
            obtain ⟨Nwt23, nwt23, cwt23, hv, _, _, _, _⟩ := own.row'
            subst hv
            have OAwt23 := Lib.hid own
            have Bwt23 := Lib.hid bwt23
            refine hK.out _ _ (HS.out _ bwt23) (fun hHeld => ?_)
            clear hK K own gr bwt23 Bwt22 OBwt22 KGwt22 OAwt22
            try go_frame
            refine wpAnyH_ready (rs := [7]) (by kernel_rfl) (by simp) ?_
            refine ready_cons (i := 7) (o := ⟨_, _, _, _, _, _⟩) rfl ?_ AllReadyH.nil
            · intro K hK
              refine Stepping.mk (appS_step tMR (base := W.heap.size) rfl (.tmp 20) (.tmp 22) rfl rfl rfl OBwt23.out (HB.out.below Bwt23.out).mr LB.out Bwt23.out.size ?_)
              intro ywt24 wt24 own gr _
              have bwt24 := grown_base Bwt23.out Bwt23.out.size gr OBwt23.out
              have OAwt24 := Lib.hid (OwnR.other OAwt23.out gr OBwt23.out (by decide))
              have KGwt24 := Lib.hid (kept_other KGwt23.out gr OBwt23.out (by decide))
              obtain ⟨Nwt24, nwt24, cwt24, hv, _, _, _, _⟩ := own.row'
              subst hv
              have OBwt24 := Lib.hid own
              have Bwt24 := Lib.hid bwt24
              refine hK.out _ _ (HS.out _ bwt24) (fun hHeld => ?_)
              clear hK K own gr bwt24 Bwt23 OAwt23 KGwt23 OBwt23
              try go_frame
              refine wpAnyH_take (i := 8) (oi := ⟨_, _, _, _, _, _⟩) (v := ?_) rfl (by kernel_rfl) (by kernel_rfl) (by kernel_rfl) (fun _ _ _ h => h) (Or.inl ⟨by rfl, ?_⟩) (by assumption) ?_
              rotate_left
              · intro w hSw; (try dsimp only at hSw); go_simp; try (with_reducible rfl)
              try go_frame
              refine wpAnyH_ready (rs := [10]) (by kernel_rfl) (by simp) ?_
              refine ready_cons (i := 10) (o := ⟨_, _, _, _, _, _⟩) rfl ?_ AllReadyH.nil
              · intro K hK
                have TW := twin_store Bwt24.out GLwt22.out KGwt24.out OAwt24.out OBwt24.out (by decide) (by decide)
                obtain ⟨z0, z1⟩ := bobj_cells KGwt24.out
                have zf0 := frozen_of KGwt24.out 0
                have zf1 := frozen_of KGwt24.out 1
                have HTW := Lib.hid TW
                clear TW
                constructor
                go_simp
                refine hK.out _ _ (HS.out _ HTW.out.low) (fun hHeld => ?_)
                clear hK K
                refine wpAnyH_done (by kernel_rfl) ?_ _
                go_wp2
                go_meet
                exact ⟨_, _, _, _, _, _, _, rfl, HTW.out⟩
      · intro K hK
        constructor
        go_simp
        have bwt26 := Bwt1.out.alloc Bwt1.out.size (bobj 25 none 0 0 none 0 0)
        refine hK.out _ _ (HS.out _ bwt26) (fun hHeld => ?_)
        have Bwt26 := Lib.hid bwt26
        have OAwt26 := Lib.hid (OwnR.alloc OAwt1.out (bobj 25 none 0 0 none 0 0))
        have KGwt26 := Lib.hid (heap_alloc_at wt1 (bobj 25 none 0 0 none 0 0))
        have GLwt26 : Hid (W.heap.size ≤ wt1.heap.size) := Lib.hid Bwt1.out.size
        clear hK K hHeld bwt26 Bwt1 OAwt1
        generalize wt1.heap.size = gwt26 at OAwt26 KGwt26 GLwt26 ⊢
        generalize wt1.alloc (bobj 25 none 0 0 none 0 0) = wt26 at OAwt26 KGwt26 GLwt26 Bwt26 ⊢
        refine wpAnyH_ready (rs := [3, 4]) (by kernel_rfl) (by simp) ?_
        refine ready_cons (i := 3) (o := ⟨_, _, _, _, _, _⟩) rfl ?_ (ready_cons (i := 4) (o := ⟨_, _, _, _, _, _⟩) rfl ?_ AllReadyH.nil)
        · intro K hK
          refine Stepping.mk (appS_step tI (base := W.heap.size) rfl (.tmp 16) (.tmp 18) rfl rfl rfl OAwt26.out (HB.out.below Bwt26.out).ar LA.out Bwt26.out.size ?_)
          intro ywt27 wt27 own gr _
          have bwt27 := grown_base Bwt26.out Bwt26.out.size gr OAwt26.out
          have KGwt27 := Lib.hid (kept_other KGwt26.out gr OAwt26.out (by decide))
          obtain ⟨Nwt27, nwt27, cwt27, hv, _, _, _, _⟩ := own.row'
          subst hv
          have OAwt27 := Lib.hid own
          have Bwt27 := Lib.hid bwt27
          refine hK.out _ _ (HS.out _ bwt27) (fun hHeld => ?_)
          clear hK K own gr bwt27 Bwt26 KGwt26 OAwt26
          try go_frame
          refine wpAnyH_ready (rs := [4]) (by kernel_rfl) (by simp) ?_
          refine ready_cons (i := 4) (o := ⟨_, _, _, _, _, _⟩) rfl ?_ AllReadyH.nil
          · intro K hK
            constructor
            go_simp
            have bwt28 := Bwt27.out.alloc Bwt27.out.size (.cells #[] 61)
            refine hK.out _ _ (HS.out _ bwt28) (fun hHeld => ?_)
            have Bwt28 := Lib.hid bwt28
            have OAwt28 := Lib.hid (OwnR.alloc OAwt27.out (.cells #[] 61))
            have KGwt28 := Lib.hid (kb_alloc KGwt27.out (.cells #[] 61))
            have OBwt28 := Lib.hid (OwnR.empty (R := prec) wt27 61 (base := W.heap.size) Bwt27.out.size)
            clear hK K hHeld bwt28 Bwt27 OAwt27 KGwt27
            generalize wt27.heap.size = gwt28 at OAwt28 OBwt28 KGwt28 GLwt26 ⊢
            generalize wt27.alloc (.cells #[] 61) = wt28 at OAwt28 OBwt28 KGwt28 GLwt26 Bwt28 ⊢
            refine wpAnyH_ready (rs := [7]) (by kernel_rfl) (by simp) ?_
            refine ready_cons (i := 7) (o := ⟨_, _, _, _, _, _⟩) rfl ?_ AllReadyH.nil
            · intro K hK
              refine Stepping.mk (appS_step tMR (base := W.heap.size) rfl (.tmp 20) (.tmp 22) rfl rfl rfl OBwt28.out (HB.out.below Bwt28.out).mr LB.out Bwt28.out.size ?_)
              intro ywt29 wt29 own gr _
              have bwt29 := grown_base Bwt28.out Bwt28.out.size gr OBwt28.out
              have OAwt29 := Lib.hid (OwnR.other OAwt28.out gr OBwt28.out (by decide))
              have KGwt29 := Lib.hid (kept_other KGwt28.out gr OBwt28.out (by decide))
              obtain ⟨Nwt29, nwt29, cwt29, hv, _, _, _, _⟩ := own.row'
              subst hv
              have OBwt29 := Lib.hid own
              have Bwt29 := Lib.hid bwt29
              refine hK.out _ _ (HS.out _ bwt29) (fun hHeld => ?_)
              clear hK K own gr bwt29 Bwt28 OAwt28 KGwt28 OBwt28
              try go_frame
              refine wpAnyH_take (i := 8) (oi := ⟨_, _, _, _, _, _⟩) (v := ?_) rfl (by kernel_rfl) (by kernel_rfl) (by kernel_rfl) (fun _ _ _ h => h) (Or.inl ⟨by rfl, ?_⟩) (by assumption) ?_
              rotate_left
              · intro w hSw; (try dsimp only at hSw); go_simp; try (with_reducible rfl)
              try go_frame
              refine wpAnyH_ready (rs := [10]) (by kernel_rfl) (by simp) ?_
              refine ready_cons (i := 10) (o := ⟨_, _, _, _, _, _⟩) rfl ?_ AllReadyH.nil
              · intro K hK
                have TW := twin_store Bwt29.out GLwt26.out KGwt29.out OAwt29.out OBwt29.out (by decide) (by decide)
                obtain ⟨z0, z1⟩ := bobj_cells KGwt29.out
                have zf0 := frozen_of KGwt29.out 0
                have zf1 := frozen_of KGwt29.out 1
                have HTW := Lib.hid TW
                clear TW
                constructor
                go_simp
                refine hK.out _ _ (HS.out _ HTW.out.low) (fun hHeld => ?_)
                clear hK K
                refine wpAnyH_done (by kernel_rfl) ?_ _
                go_wp2
                go_meet
                exact ⟨_, _, _, _, _, _, _, rfl, HTW.out⟩
        · intro K hK
          constructor
          go_simp
          have bwt31 := Bwt26.out.alloc Bwt26.out.size (.cells #[] 61)
          refine hK.out _ _ (HS.out _ bwt31) (fun hHeld => ?_)
          have Bwt31 := Lib.hid bwt31
          have OAwt31 := Lib.hid (OwnR.alloc OAwt26.out (.cells #[] 61))
          have KGwt31 := Lib.hid (kb_alloc KGwt26.out (.cells #[] 61))
          have OBwt31 := Lib.hid (OwnR.empty (R := prec) wt26 61 (base := W.heap.size) Bwt26.out.size)
          clear hK K hHeld bwt31 Bwt26 OAwt26 KGwt26
          generalize wt26.heap.size = gwt31 at OAwt31 OBwt31 KGwt31 GLwt26 ⊢
          generalize wt26.alloc (.cells #[] 61) = wt31 at OAwt31 OBwt31 KGwt31 GLwt26 Bwt31 ⊢
          refine wpAnyH_ready (rs := [3]) (by kernel_rfl) (by simp) ?_
          refine ready_cons (i := 3) (o := ⟨_, _, _, _, _, _⟩) rfl ?_ AllReadyH.nil
          · intro K hK
            refine Stepping.mk (appS_step tI (base := W.heap.size) rfl (.tmp 16) (.tmp 18) rfl rfl rfl OAwt31.out (HB.out.below Bwt31.out).ar LA.out Bwt31.out.size ?_)
            intro ywt32 wt32 own gr _
            have bwt32 := grown_base Bwt31.out Bwt31.out.size gr OAwt31.out
            have OBwt32 := Lib.hid (OwnR.other OBwt31.out gr OAwt31.out (by decide))
            have KGwt32 := Lib.hid (kept_other KGwt31.out gr OAwt31.out (by decide))
            obtain ⟨Nwt32, nwt32, cwt32, hv, _, _, _, _⟩ := own.row'
            subst hv
            have OAwt32 := Lib.hid own
            have Bwt32 := Lib.hid bwt32
            refine hK.out _ _ (HS.out _ bwt32) (fun hHeld => ?_)
            clear hK K own gr bwt32 Bwt31 OBwt31 KGwt31 OAwt31
            try go_frame
            refine wpAnyH_ready (rs := [7]) (by kernel_rfl) (by simp) ?_
            refine ready_cons (i := 7) (o := ⟨_, _, _, _, _, _⟩) rfl ?_ AllReadyH.nil
            · intro K hK
              refine Stepping.mk (appS_step tMR (base := W.heap.size) rfl (.tmp 20) (.tmp 22) rfl rfl rfl OBwt32.out (HB.out.below Bwt32.out).mr LB.out Bwt32.out.size ?_)
              intro ywt33 wt33 own gr _
              have bwt33 := grown_base Bwt32.out Bwt32.out.size gr OBwt32.out
              have OAwt33 := Lib.hid (OwnR.other OAwt32.out gr OBwt32.out (by decide))
              have KGwt33 := Lib.hid (kept_other KGwt32.out gr OBwt32.out (by decide))
              obtain ⟨Nwt33, nwt33, cwt33, hv, _, _, _, _⟩ := own.row'
              subst hv
              have OBwt33 := Lib.hid own
              have Bwt33 := Lib.hid bwt33
              refine hK.out _ _ (HS.out _ bwt33) (fun hHeld => ?_)
              clear hK K own gr bwt33 Bwt32 OAwt32 KGwt32 OBwt32
              try go_frame
              refine wpAnyH_take (i := 8) (oi := ⟨_, _, _, _, _, _⟩) (v := ?_) rfl (by kernel_rfl) (by kernel_rfl) (by kernel_rfl) (fun _ _ _ h => h) (Or.inl ⟨by rfl, ?_⟩) (by assumption) ?_
              rotate_left
              · intro w hSw; (try dsimp only at hSw); go_simp; try (with_reducible rfl)
              try go_frame
              refine wpAnyH_ready (rs := [10]) (by kernel_rfl) (by simp) ?_
              refine ready_cons (i := 10) (o := ⟨_, _, _, _, _, _⟩) rfl ?_ AllReadyH.nil
              · intro K hK
                have TW := twin_store Bwt33.out GLwt26.out KGwt33.out OAwt33.out OBwt33.out (by decide) (by decide)
                obtain ⟨z0, z1⟩ := bobj_cells KGwt33.out
                have zf0 := frozen_of KGwt33.out 0
                have zf1 := frozen_of KGwt33.out 1
                have HTW := Lib.hid TW
                clear TW
                constructor
                go_simp
                refine hK.out _ _ (HS.out _ HTW.out.low) (fun hHeld => ?_)
                clear hK K
                refine wpAnyH_done (by kernel_rfl) ?_ _
                go_wp2
                go_meet
                exact ⟨_, _, _, _, _, _, _, rfl, HTW.out⟩
    · intro K hK
      constructor
      go_simp
      have bwt35 := Bwt0.out.alloc Bwt0.out.size (.cells #[] 61)
      refine hK.out _ _ (HS.out _ bwt35) (fun hHeld => ?_)
      have Bwt35 := Lib.hid bwt35
      have OBwt35 := Lib.hid (OwnR.empty (R := prec) wt0 61 (base := W.heap.size) Bwt0.out.size)
      clear hK K hHeld bwt35 Bwt0 
      generalize wt0.heap.size = gwt35 at OBwt35 ⊢
      generalize wt0.alloc (.cells #[] 61) = wt35 at OBwt35 Bwt35 ⊢
      refine wpAnyH_ready (rs := [0, 9]) (by kernel_rfl) (by simp) ?_
      refine ready_cons (i := 0) (o := ⟨_, _, _, _, _, _⟩) rfl ?_ (ready_cons (i := 9) (o := ⟨_, _, _, _, _, _⟩) rfl ?_ AllReadyH.nil)
      · intro K hK
        constructor
        go_simp
        have bwt36 := Bwt35.out.alloc Bwt35.out.size (.cells #[] 3)
        refine hK.out _ _ (HS.out _ bwt36) (fun hHeld => ?_)
        have Bwt36 := Lib.hid bwt36
        have OBwt36 := Lib.hid (OwnR.alloc OBwt35.out (.cells #[] 3))
        have OAwt36 := Lib.hid (OwnR.empty (R := irec) wt35 3 (base := W.heap.size) Bwt35.out.size)
        clear hK K hHeld bwt36 Bwt35 OBwt35
        generalize wt35.heap.size = gwt36 at OAwt36 OBwt36 ⊢
        generalize wt35.alloc (.cells #[] 3) = wt36 at OAwt36 OBwt36 Bwt36 ⊢
        refine wpAnyH_ready (rs := [3, 9]) (by kernel_rfl) (by simp) ?_
        refine ready_cons (i := 3) (o := ⟨_, _, _, _, _, _⟩) rfl ?_ (ready_cons (i := 9) (o := ⟨_, _, _, _, _, _⟩) rfl ?_ AllReadyH.nil)
        · intro K hK
          refine Stepping.mk (appS_step tI (base := W.heap.size) rfl (.tmp 16) (.tmp 18) rfl rfl rfl OAwt36.out (HB.out.below Bwt36.out).ar LA.out Bwt36.out.size ?_)
          intro ywt37 wt37 own gr _
          have bwt37 := grown_base Bwt36.out Bwt36.out.size gr OAwt36.out
          have OBwt37 := Lib.hid (OwnR.other OBwt36.out gr OAwt36.out (by decide))
          obtain ⟨Nwt37, nwt37, cwt37, hv, _, _, _, _⟩ := own.row'
          subst hv
          have OAwt37 := Lib.hid own
          have Bwt37 := Lib.hid bwt37
          refine hK.out _ _ (HS.out _ bwt37) (fun hHeld => ?_)
          clear hK K own gr bwt37 Bwt36 OBwt36 OAwt36
          try go_frame
          refine wpAnyH_ready (rs := [7, 9]) (by kernel_rfl) (by simp) ?_
          refine ready_cons (i := 7) (o := ⟨_, _, _, _, _, _⟩) rfl ?_ (ready_cons (i := 9) (o := ⟨_, _, _, _, _, _⟩) rfl ?_ AllReadyH.nil)
          · intro K hK
            refine Stepping.mk (appS_step tMR (base := W.heap.size) rfl (.tmp 20) (.tmp 22) rfl rfl rfl OBwt37.out (HB.out.below Bwt37.out).mr LB.out Bwt37.out.size ?_)
            intro ywt38 wt38 own gr _
            have bwt38 := grown_base Bwt37.out Bwt37.out.size gr OBwt37.out
            have OAwt38 := Lib.hid (OwnR.other OAwt37.out gr OBwt37.out (by decide))
            obtain ⟨Nwt38, nwt38, cwt38, hv, _, _, _, _⟩ := own.row'
            subst hv
            have OBwt38 := Lib.hid own
            have Bwt38 := Lib.hid bwt38
            refine hK.out _ _ (HS.out _ bwt38) (fun hHeld => ?_)
            clear hK K own gr bwt38 Bwt37 OAwt37 OBwt37
            try go_frame
            refine wpAnyH_take (i := 8) (oi := ⟨_, _, _, _, _, _⟩) (v := ?_) rfl (by kernel_rfl) (by kernel_rfl) (by kernel_rfl) (fun _ _ _ h => h) (Or.inl ⟨by rfl, ?_⟩) (by assumption) ?_
            rotate_left
            · intro w hSw; (try dsimp only at hSw); go_simp; try (with_reducible rfl)
            try go_frame
            refine wpAnyH_ready (rs := [9]) (by kernel_rfl) (by simp) ?_
            refine ready_cons (i := 9) (o := ⟨_, _, _, _, _, _⟩) rfl ?_ AllReadyH.nil
            · intro K hK
              constructor
              go_simp
              have bwt39 := Bwt38.out.alloc Bwt38.out.size (bobj 25 none 0 0 none 0 0)
              refine hK.out _ _ (HS.out _ bwt39) (fun hHeld => ?_)
              have Bwt39 := Lib.hid bwt39
              have OAwt39 := Lib.hid (OwnR.alloc OAwt38.out (bobj 25 none 0 0 none 0 0))
              have OBwt39 := Lib.hid (OwnR.alloc OBwt38.out (bobj 25 none 0 0 none 0 0))
              have KGwt39 := Lib.hid (heap_alloc_at wt38 (bobj 25 none 0 0 none 0 0))
              have GLwt39 : Hid (W.heap.size ≤ wt38.heap.size) := Lib.hid Bwt38.out.size
              clear hK K hHeld bwt39 Bwt38 OAwt38 OBwt38
              generalize wt38.heap.size = gwt39 at OAwt39 OBwt39 KGwt39 GLwt39 ⊢
              generalize wt38.alloc (bobj 25 none 0 0 none 0 0) = wt39 at OAwt39 OBwt39 KGwt39 GLwt39 Bwt39 ⊢
              refine wpAnyH_ready (rs := [10]) (by kernel_rfl) (by simp) ?_
              refine ready_cons (i := 10) (o := ⟨_, _, _, _, _, _⟩) rfl ?_ AllReadyH.nil
              · intro K hK
                have TW := twin_store Bwt39.out GLwt39.out KGwt39.out OAwt39.out OBwt39.out (by decide) (by decide)
                obtain ⟨z0, z1⟩ := bobj_cells KGwt39.out
                have zf0 := frozen_of KGwt39.out 0
                have zf1 := frozen_of KGwt39.out 1
                have HTW := Lib.hid TW
                clear TW
                constructor
                go_simp
                refine hK.out _ _ (HS.out _ HTW.out.low) (fun hHeld => ?_)
                clear hK K
                refine wpAnyH_done (by kernel_rfl) ?_ _
                go_wp2
                go_meet
                exact ⟨_, _, _, _, _, _, _, rfl, HTW.out⟩
          · intro K hK
            constructor
            go_simp
            have bwt41 := Bwt37.out.alloc Bwt37.out.size (bobj 25 none 0 0 none 0 0)
            refine hK.out _ _ (HS.out _ bwt41) (fun hHeld => ?_)
            have Bwt41 := Lib.hid bwt41
            have OAwt41 := Lib.hid (OwnR.alloc OAwt37.out (bobj 25 none 0 0 none 0 0))
            have OBwt41 := Lib.hid (OwnR.alloc OBwt37.out (bobj 25 none 0 0 none 0 0))
            have KGwt41 := Lib.hid (heap_alloc_at wt37 (bobj 25 none 0 0 none 0 0))
            have GLwt41 : Hid (W.heap.size ≤ wt37.heap.size) := Lib.hid Bwt37.out.size
            clear hK K hHeld bwt41 Bwt37 OAwt37 OBwt37
            generalize wt37.heap.size = gwt41 at OAwt41 OBwt41 KGwt41 GLwt41 ⊢
            generalize wt37.alloc (bobj 25 none 0 0 none 0 0) = wt41 at OAwt41 OBwt41 KGwt41 GLwt41 Bwt41 ⊢
            refine wpAnyH_ready (rs := [7]) (by kernel_rfl) (by simp) ?_
            refine ready_cons (i := 7) (o := ⟨_, _, _, _, _, _⟩) rfl ?_ AllReadyH.nil
            · intro K hK
              refine Stepping.mk (appS_step tMR (base := W.heap.size) rfl (.tmp 20) (.tmp 22) rfl rfl rfl OBwt41.out (HB.out.below Bwt41.out).mr LB.out Bwt41.out.size ?_)
              intro ywt42 wt42 own gr _
              have bwt42 := grown_base Bwt41.out Bwt41.out.size gr OBwt41.out
              have OAwt42 := Lib.hid (OwnR.other OAwt41.out gr OBwt41.out (by decide))
              have KGwt42 := Lib.hid (kept_other KGwt41.out gr OBwt41.out (by decide))
              obtain ⟨Nwt42, nwt42, cwt42, hv, _, _, _, _⟩ := own.row'
              subst hv
              have OBwt42 := Lib.hid own
              have Bwt42 := Lib.hid bwt42
              refine hK.out _ _ (HS.out _ bwt42) (fun hHeld => ?_)
              clear hK K own gr bwt42 Bwt41 OAwt41 KGwt41 OBwt41
              try go_frame
              refine wpAnyH_take (i := 8) (oi := ⟨_, _, _, _, _, _⟩) (v := ?_) rfl (by kernel_rfl) (by kernel_rfl) (by kernel_rfl) (fun _ _ _ h => h) (Or.inl ⟨by rfl, ?_⟩) (by assumption) ?_
              rotate_left
              · intro w hSw; (try dsimp only at hSw); go_simp; try (with_reducible rfl)
              try go_frame
              refine wpAnyH_ready (rs := [10]) (by kernel_rfl) (by simp) ?_
              refine ready_cons (i := 10) (o := ⟨_, _, _, _, _, _⟩) rfl ?_ AllReadyH.nil
              · intro K hK
                have TW := twin_store Bwt42.out GLwt41.out KGwt42.out OAwt42.out OBwt42.out (by decide) (by decide)
                obtain ⟨z0, z1⟩ := bobj_cells KGwt42.out
                have zf0 := frozen_of KGwt42.out 0
                have zf1 := frozen_of KGwt42.out 1
                have HTW := Lib.hid TW
                clear TW
                constructor
                go_simp
                refine hK.out _ _ (HS.out _ HTW.out.low) (fun hHeld => ?_)
                clear hK K
                refine wpAnyH_done (by kernel_rfl) ?_ _
                go_wp2
                go_meet
                exact ⟨_, _, _, _, _, _, _, rfl, HTW.out⟩
        · intro K hK
          constructor
          go_simp
          have bwt44 := Bwt36.out.alloc Bwt36.out.size (bobj 25 none 0 0 none 0 0)
          refine hK.out _ _ (HS.out _ bwt44) (fun hHeld => ?_)
          have Bwt44 := Lib.hid bwt44
          have OAwt44 := Lib.hid (OwnR.alloc OAwt36.out (bobj 25 none 0 0 none 0 0))
          have OBwt44 := Lib.hid (OwnR.alloc OBwt36.out (bobj 25 none 0 0 none 0 0))
          have KGwt44 := Lib.hid (heap_alloc_at wt36 (bobj 25 none 0 0 none 0 0))
          have GLwt44 : Hid (W.heap.size ≤ wt36.heap.size) := Lib.hid Bwt36.out.size
          clear hK K hHeld bwt44 Bwt36 OAwt36 OBwt36
          generalize wt36.heap.size = gwt44 at OAwt44 OBwt44 KGwt44 GLwt44 ⊢
          generalize wt36.alloc (bobj 25 none 0 0 none 0 0) = wt44 at OAwt44 OBwt44 KGwt44 GLwt44 Bwt44 ⊢
          refine wpAnyH_ready (rs := [3]) (by kernel_rfl) (by simp) ?_
          refine ready_cons (i := 3) (o := ⟨_, _, _, _, _, _⟩) rfl ?_ AllReadyH.nil
          · intro K hK
            refine Stepping.mk (appS_step tI (base := W.heap.size) rfl (.tmp 16) (.tmp 18) rfl rfl rfl OAwt44.out (HB.out.below Bwt44.out).ar LA.out Bwt44.out.size ?_)
            intro ywt45 wt45 own gr _
            have bwt45 := grown_base Bwt44.out Bwt44.out.size gr OAwt44.out
            have OBwt45 := Lib.hid (OwnR.other OBwt44.out gr OAwt44.out (by decide))
            have KGwt45 := Lib.hid (kept_other KGwt44.out gr OAwt44.out (by decide))
            obtain ⟨Nwt45, nwt45, cwt45, hv, _, _, _, _⟩ := own.row'
            subst hv
            have OAwt45 := Lib.hid own
            have Bwt45 := Lib.hid bwt45
            refine hK.out _ _ (HS.out _ bwt45) (fun hHeld => ?_)
            clear hK K own gr bwt45 Bwt44 OBwt44 KGwt44 OAwt44
            try go_frame
            refine wpAnyH_ready (rs := [7]) (by kernel_rfl) (by simp) ?_
            refine ready_cons (i := 7) (o := ⟨_, _, _, _, _, _⟩) rfl ?_ AllReadyH.nil
            · intro K hK
              refine Stepping.mk (appS_step tMR (base := W.heap.size) rfl (.tmp 20) (.tmp 22) rfl rfl rfl OBwt45.out (HB.out.below Bwt45.out).mr LB.out Bwt45.out.size ?_)
              intro ywt46 wt46 own gr _
              have bwt46 := grown_base Bwt45.out Bwt45.out.size gr OBwt45.out
              have OAwt46 := Lib.hid (OwnR.other OAwt45.out gr OBwt45.out (by decide))
              have KGwt46 := Lib.hid (kept_other KGwt45.out gr OBwt45.out (by decide))
              obtain ⟨Nwt46, nwt46, cwt46, hv, _, _, _, _⟩ := own.row'
              subst hv
              have OBwt46 := Lib.hid own
              have Bwt46 := Lib.hid bwt46
              refine hK.out _ _ (HS.out _ bwt46) (fun hHeld => ?_)
              clear hK K own gr bwt46 Bwt45 OAwt45 KGwt45 OBwt45
              try go_frame
              refine wpAnyH_take (i := 8) (oi := ⟨_, _, _, _, _, _⟩) (v := ?_) rfl (by kernel_rfl) (by kernel_rfl) (by kernel_rfl) (fun _ _ _ h => h) (Or.inl ⟨by rfl, ?_⟩) (by assumption) ?_
              rotate_left
              · intro w hSw; (try dsimp only at hSw); go_simp; try (with_reducible rfl)
              try go_frame
              refine wpAnyH_ready (rs := [10]) (by kernel_rfl) (by simp) ?_
              refine ready_cons (i := 10) (o := ⟨_, _, _, _, _, _⟩) rfl ?_ AllReadyH.nil
              · intro K hK
                have TW := twin_store Bwt46.out GLwt44.out KGwt46.out OAwt46.out OBwt46.out (by decide) (by decide)
                obtain ⟨z0, z1⟩ := bobj_cells KGwt46.out
                have zf0 := frozen_of KGwt46.out 0
                have zf1 := frozen_of KGwt46.out 1
                have HTW := Lib.hid TW
                clear TW
                constructor
                go_simp
                refine hK.out _ _ (HS.out _ HTW.out.low) (fun hHeld => ?_)
                clear hK K
                refine wpAnyH_done (by kernel_rfl) ?_ _
                go_wp2
                go_meet
                exact ⟨_, _, _, _, _, _, _, rfl, HTW.out⟩
      · intro K hK
        constructor
        go_simp
        have bwt48 := Bwt35.out.alloc Bwt35.out.size (bobj 25 none 0 0 none 0 0)
        refine hK.out _ _ (HS.out _ bwt48) (fun hHeld => ?_)
        have Bwt48 := Lib.hid bwt48
        have OBwt48 := Lib.hid (OwnR.alloc OBwt35.out (bobj 25 none 0 0 none 0 0))
        have KGwt48 := Lib.hid (heap_alloc_at wt35 (bobj 25 none 0 0 none 0 0))
        have GLwt48 : Hid (W.heap.size ≤ wt35.heap.size) := Lib.hid Bwt35.out.size
        clear hK K hHeld bwt48 Bwt35 OBwt35
        generalize wt35.heap.size = gwt48 at OBwt48 KGwt48 GLwt48 ⊢
        generalize wt35.alloc (bobj 25 none 0 0 none 0 0) = wt48 at OBwt48 KGwt48 GLwt48 Bwt48 ⊢
        refine wpAnyH_ready (rs := [0]) (by kernel_rfl) (by simp) ?_
        refine ready_cons (i := 0) (o := ⟨_, _, _, _, _, _⟩) rfl ?_ AllReadyH.nil
        · intro K hK
          constructor
          go_simp
          have bwt49 := Bwt48.out.alloc Bwt48.out.size (.cells #[] 3)
          refine hK.out _ _ (HS.out _ bwt49) (fun hHeld => ?_)
          have Bwt49 := Lib.hid bwt49
          have OBwt49 := Lib.hid (OwnR.alloc OBwt48.out (.cells #[] 3))
          have KGwt49 := Lib.hid (kb_alloc KGwt48.out (.cells #[] 3))
          have OAwt49 := Lib.hid (OwnR.empty (R := irec) wt48 3 (base := W.heap.size) Bwt48.out.size)
          clear hK K hHeld bwt49 Bwt48 OBwt48 KGwt48
          generalize wt48.heap.size = gwt49 at OAwt49 OBwt49 KGwt49 GLwt48 ⊢
          generalize wt48.alloc (.cells #[] 3) = wt49 at OAwt49 OBwt49 KGwt49 GLwt48 Bwt49 ⊢
          refine wpAnyH_ready (rs := [3]) (by kernel_rfl) (by simp) ?_
          refine ready_cons (i := 3) (o := ⟨_, _, _, _, _, _⟩) rfl ?_ AllReadyH.nil
          · intro K hK
            refine Stepping.mk (appS_step tI (base := W.heap.size) rfl (.tmp 16) (.tmp 18) rfl rfl rfl OAwt49.out (HB.out.below Bwt49.out).ar LA.out Bwt49.out.size ?_)
            intro ywt50 wt50 own gr _
            have bwt50 := grown_base Bwt49.out Bwt49.out.size gr OAwt49.out
            have OBwt50 := Lib.hid (OwnR.other OBwt49.out gr OAwt49.out (by decide))
            have KGwt50 := Lib.hid (kept_other KGwt49.out gr OAwt49.out (by decide))
            obtain ⟨Nwt50, nwt50, cwt50, hv, _, _, _, _⟩ := own.row'
            subst hv
            have OAwt50 := Lib.hid own
            have Bwt50 := Lib.hid bwt50
            refine hK.out _ _ (HS.out _ bwt50) (fun hHeld => ?_)
            clear hK K own gr bwt50 Bwt49 OBwt49 KGwt49 OAwt49
            try go_frame
            refine wpAnyH_ready (rs := [7]) (by kernel_rfl) (by simp) ?_
            refine ready_cons (i := 7) (o := ⟨_, _, _, _, _, _⟩) rfl ?_ AllReadyH.nil
            · intro K hK
              refine Stepping.mk (appS_step tMR (base := W.heap.size) rfl (.tmp 20) (.tmp 22) rfl rfl rfl OBwt50.out (HB.out.below Bwt50.out).mr LB.out Bwt50.out.size ?_)
              intro ywt51 wt51 own gr _
              have bwt51 := grown_base Bwt50.out Bwt50.out.size gr OBwt50.out
              have OAwt51 := Lib.hid (OwnR.other OAwt50.out gr OBwt50.out (by decide))
              have KGwt51 := Lib.hid (kept_other KGwt50.out gr OBwt50.out (by decide))
              obtain ⟨Nwt51, nwt51, cwt51, hv, _, _, _, _⟩ := own.row'
              subst hv
              have OBwt51 := Lib.hid own
              have Bwt51 := Lib.hid bwt51
              refine hK.out _ _ (HS.out _ bwt51) (fun hHeld => ?_)
              clear hK K own gr bwt51 Bwt50 OAwt50 KGwt50 OBwt50
              try go_frame
              refine wpAnyH_take (i := 8) (oi := ⟨_, _, _, _, _, _⟩) (v := ?_) rfl (by kernel_rfl) (by kernel_rfl) (by kernel_rfl) (fun _ _ _ h => h) (Or.inl ⟨by rfl, ?_⟩) (by assumption) ?_
              rotate_left
              · intro w hSw; (try dsimp only at hSw); go_simp; try (with_reducible rfl)
              try go_frame
              refine wpAnyH_ready (rs := [10]) (by kernel_rfl) (by simp) ?_
              refine ready_cons (i := 10) (o := ⟨_, _, _, _, _, _⟩) rfl ?_ AllReadyH.nil
              · intro K hK
                have TW := twin_store Bwt51.out GLwt48.out KGwt51.out OAwt51.out OBwt51.out (by decide) (by decide)
                obtain ⟨z0, z1⟩ := bobj_cells KGwt51.out
                have zf0 := frozen_of KGwt51.out 0
                have zf1 := frozen_of KGwt51.out 1
                have HTW := Lib.hid TW
                clear TW
                constructor
                go_simp
                refine hK.out _ _ (HS.out _ HTW.out.low) (fun hHeld => ?_)
                clear hK K
                refine wpAnyH_done (by kernel_rfl) ?_ _
                go_wp2
                go_meet
                exact ⟨_, _, _, _, _, _, _, rfl, HTW.out⟩
    · intro K hK
      constructor
      go_simp
      have bwt53 := Bwt0.out.alloc Bwt0.out.size (bobj 25 none 0 0 none 0 0)
      refine hK.out _ _ (HS.out _ bwt53) (fun hHeld => ?_)
      have Bwt53 := Lib.hid bwt53
      have KGwt53 := Lib.hid (heap_alloc_at wt0 (bobj 25 none 0 0 none 0 0))
      have GLwt53 : Hid (W.heap.size ≤ wt0.heap.size) := Lib.hid Bwt0.out.size
      clear hK K hHeld bwt53 Bwt0 
      generalize wt0.heap.size = gwt53 at KGwt53 GLwt53 ⊢
      generalize wt0.alloc (bobj 25 none 0 0 none 0 0) = wt53 at KGwt53 GLwt53 Bwt53 ⊢
      refine wpAnyH_ready (rs := [0, 4]) (by kernel_rfl) (by simp) ?_
      refine ready_cons (i := 0) (o := ⟨_, _, _, _, _, _⟩) rfl ?_ (ready_cons (i := 4) (o := ⟨_, _, _, _, _, _⟩) rfl ?_ AllReadyH.nil)
      · intro K hK
        constructor
        go_simp
        have bwt54 := Bwt53.out.alloc Bwt53.out.size (.cells #[] 3)
        refine hK.out _ _ (HS.out _ bwt54) (fun hHeld => ?_)
        have Bwt54 := Lib.hid bwt54
        have KGwt54 := Lib.hid (kb_alloc KGwt53.out (.cells #[] 3))
        have OAwt54 := Lib.hid (OwnR.empty (R := irec) wt53 3 (base := W.heap.size) Bwt53.out.size)
        clear hK K hHeld bwt54 Bwt53 KGwt53
        generalize wt53.heap.size = gwt54 at OAwt54 KGwt54 GLwt53 ⊢
        generalize wt53.alloc (.cells #[] 3) = wt54 at OAwt54 KGwt54 GLwt53 Bwt54 ⊢
        refine wpAnyH_ready (rs := [3, 4]) (by kernel_rfl) (by simp) ?_
        refine ready_cons (i := 3) (o := ⟨_, _, _, _, _, _⟩) rfl ?_ (ready_cons (i := 4) (o := ⟨_, _, _, _, _, _⟩) rfl ?_ AllReadyH.nil)
        · intro K hK
          refine Stepping.mk (appS_step tI (base := W.heap.size) rfl (.tmp 16) (.tmp 18) rfl rfl rfl OAwt54.out (HB.out.below Bwt54.out).ar LA.out Bwt54.out.size ?_)
          intro ywt55 wt55 own gr _
          have bwt55 := grown_base Bwt54.out Bwt54.out.size gr OAwt54.out
          have KGwt55 := Lib.hid (kept_other KGwt54.out gr OAwt54.out (by decide))
          obtain ⟨Nwt55, nwt55, cwt55, hv, _, _, _, _⟩ := own.row'
          subst hv
          have OAwt55 := Lib.hid own
          have Bwt55 := Lib.hid bwt55
          refine hK.out _ _ (HS.out _ bwt55) (fun hHeld => ?_)
          clear hK K own gr bwt55 Bwt54 KGwt54 OAwt54
          try go_frame
          refine wpAnyH_ready (rs := [4]) (by kernel_rfl) (by simp) ?_
          refine ready_cons (i := 4) (o := ⟨_, _, _, _, _, _⟩) rfl ?_ AllReadyH.nil
          · intro K hK
            constructor
            go_simp
            have bwt56 := Bwt55.out.alloc Bwt55.out.size (.cells #[] 61)
            refine hK.out _ _ (HS.out _ bwt56) (fun hHeld => ?_)
            have Bwt56 := Lib.hid bwt56
            have OAwt56 := Lib.hid (OwnR.alloc OAwt55.out (.cells #[] 61))
            have KGwt56 := Lib.hid (kb_alloc KGwt55.out (.cells #[] 61))
            have OBwt56 := Lib.hid (OwnR.empty (R := prec) wt55 61 (base := W.heap.size) Bwt55.out.size)
            clear hK K hHeld bwt56 Bwt55 OAwt55 KGwt55
            generalize wt55.heap.size = gwt56 at OAwt56 OBwt56 KGwt56 GLwt53 ⊢
            generalize wt55.alloc (.cells #[] 61) = wt56 at OAwt56 OBwt56 KGwt56 GLwt53 Bwt56 ⊢
            refine wpAnyH_ready (rs := [7]) (by kernel_rfl) (by simp) ?_
            refine ready_cons (i := 7) (o := ⟨_, _, _, _, _, _⟩) rfl ?_ AllReadyH.nil
            · intro K hK
              refine Stepping.mk (appS_step tMR (base := W.heap.size) rfl (.tmp 20) (.tmp 22) rfl rfl rfl OBwt56.out (HB.out.below Bwt56.out).mr LB.out Bwt56.out.size ?_)
              intro ywt57 wt57 own gr _
              have bwt57 := grown_base Bwt56.out Bwt56.out.size gr OBwt56.out
              have OAwt57 := Lib.hid (OwnR.other OAwt56.out gr OBwt56.out (by decide))
              have KGwt57 := Lib.hid (kept_other KGwt56.out gr OBwt56.out (by decide))
              obtain ⟨Nwt57, nwt57, cwt57, hv, _, _, _, _⟩ := own.row'
              subst hv
              have OBwt57 := Lib.hid own
              have Bwt57 := Lib.hid bwt57
              refine hK.out _ _ (HS.out _ bwt57) (fun hHeld => ?_)
              clear hK K own gr bwt57 Bwt56 OAwt56 KGwt56 OBwt56
              try go_frame
              refine wpAnyH_take (i := 8) (oi := ⟨_, _, _, _, _, _⟩) (v := ?_) rfl (by kernel_rfl) (by kernel_rfl) (by kernel_rfl) (fun _ _ _ h => h) (Or.inl ⟨by rfl, ?_⟩) (by assumption) ?_
              rotate_left
              · intro w hSw; (try dsimp only at hSw); go_simp; try (with_reducible rfl)
              try go_frame
              refine wpAnyH_ready (rs := [10]) (by kernel_rfl) (by simp) ?_
              refine ready_cons (i := 10) (o := ⟨_, _, _, _, _, _⟩) rfl ?_ AllReadyH.nil
              · intro K hK
                have TW := twin_store Bwt57.out GLwt53.out KGwt57.out OAwt57.out OBwt57.out (by decide) (by decide)
                obtain ⟨z0, z1⟩ := bobj_cells KGwt57.out
                have zf0 := frozen_of KGwt57.out 0
                have zf1 := frozen_of KGwt57.out 1
                have HTW := Lib.hid TW
                clear TW
                constructor
                go_simp
                refine hK.out _ _ (HS.out _ HTW.out.low) (fun hHeld => ?_)
                clear hK K
                refine wpAnyH_done (by kernel_rfl) ?_ _
                go_wp2
                go_meet
                exact ⟨_, _, _, _, _, _, _, rfl, HTW.out⟩
        · intro K hK
          constructor
          go_simp
          have bwt59 := Bwt54.out.alloc Bwt54.out.size (.cells #[] 61)
          refine hK.out _ _ (HS.out _ bwt59) (fun hHeld => ?_)
          have Bwt59 := Lib.hid bwt59
          have OAwt59 := Lib.hid (OwnR.alloc OAwt54.out (.cells #[] 61))
          have KGwt59 := Lib.hid (kb_alloc KGwt54.out (.cells #[] 61))
          have OBwt59 := Lib.hid (OwnR.empty (R := prec) wt54 61 (base := W.heap.size) Bwt54.out.size)
          clear hK K hHeld bwt59 Bwt54 OAwt54 KGwt54
          generalize wt54.heap.size = gwt59 at OAwt59 OBwt59 KGwt59 GLwt53 ⊢
          generalize wt54.alloc (.cells #[] 61) = wt59 at OAwt59 OBwt59 KGwt59 GLwt53 Bwt59 ⊢
          refine wpAnyH_ready (rs := [3]) (by kernel_rfl) (by simp) ?_
          refine ready_cons (i := 3) (o := ⟨_, _, _, _, _, _⟩) rfl ?_ AllReadyH.nil
          · intro K hK
            refine Stepping.mk (appS_step tI (base := W.heap.size) rfl (.tmp 16) (.tmp 18) rfl rfl rfl OAwt59.out (HB.out.below Bwt59.out).ar LA.out Bwt59.out.size ?_)
            intro ywt60 wt60 own gr _
            have bwt60 := grown_base Bwt59.out Bwt59.out.size gr OAwt59.out
            have OBwt60 := Lib.hid (OwnR.other OBwt59.out gr OAwt59.out (by decide))
            have KGwt60 := Lib.hid (kept_other KGwt59.out gr OAwt59.out (by decide))
            obtain ⟨Nwt60, nwt60, cwt60, hv, _, _, _, _⟩ := own.row'
            subst hv
            have OAwt60 := Lib.hid own
            have Bwt60 := Lib.hid bwt60
            refine hK.out _ _ (HS.out _ bwt60) (fun hHeld => ?_)
            clear hK K own gr bwt60 Bwt59 OBwt59 KGwt59 OAwt59
            try go_frame
            refine wpAnyH_ready (rs := [7]) (by kernel_rfl) (by simp) ?_
            refine ready_cons (i := 7) (o := ⟨_, _, _, _, _, _⟩) rfl ?_ AllReadyH.nil
            · intro K hK
              refine Stepping.mk (appS_step tMR (base := W.heap.size) rfl (.tmp 20) (.tmp 22) rfl rfl rfl OBwt60.out (HB.out.below Bwt60.out).mr LB.out Bwt60.out.size ?_)
              intro ywt61 wt61 own gr _
              have bwt61 := grown_base Bwt60.out Bwt60.out.size gr OBwt60.out
              have OAwt61 := Lib.hid (OwnR.other OAwt60.out gr OBwt60.out (by decide))
              have KGwt61 := Lib.hid (kept_other KGwt60.out gr OBwt60.out (by decide))
              obtain ⟨Nwt61, nwt61, cwt61, hv, _, _, _, _⟩ := own.row'
              subst hv
              have OBwt61 := Lib.hid own
              have Bwt61 := Lib.hid bwt61
              refine hK.out _ _ (HS.out _ bwt61) (fun hHeld => ?_)
              clear hK K own gr bwt61 Bwt60 OAwt60 KGwt60 OBwt60
              try go_frame
              refine wpAnyH_take (i := 8) (oi := ⟨_, _, _, _, _, _⟩) (v := ?_) rfl (by kernel_rfl) (by kernel_rfl) (by kernel_rfl) (fun _ _ _ h => h) (Or.inl ⟨by rfl, ?_⟩) (by assumption) ?_
              rotate_left
              · intro w hSw; (try dsimp only at hSw); go_simp; try (with_reducible rfl)
              try go_frame
              refine wpAnyH_ready (rs := [10]) (by kernel_rfl) (by simp) ?_
              refine ready_cons (i := 10) (o := ⟨_, _, _, _, _, _⟩) rfl ?_ AllReadyH.nil
              · intro K hK
                have TW := twin_store Bwt61.out GLwt53.out KGwt61.out OAwt61.out OBwt61.out (by decide) (by decide)
                obtain ⟨z0, z1⟩ := bobj_cells KGwt61.out
                have zf0 := frozen_of KGwt61.out 0
                have zf1 := frozen_of KGwt61.out 1
                have HTW := Lib.hid TW
                clear TW
                constructor
                go_simp
                refine hK.out _ _ (HS.out _ HTW.out.low) (fun hHeld => ?_)
                clear hK K
                refine wpAnyH_done (by kernel_rfl) ?_ _
                go_wp2
                go_meet
                exact ⟨_, _, _, _, _, _, _, rfl, HTW.out⟩
      · intro K hK
        constructor
        go_simp
        have bwt63 := Bwt53.out.alloc Bwt53.out.size (.cells #[] 61)
        refine hK.out _ _ (HS.out _ bwt63) (fun hHeld => ?_)
        have Bwt63 := Lib.hid bwt63
        have KGwt63 := Lib.hid (kb_alloc KGwt53.out (.cells #[] 61))
        have OBwt63 := Lib.hid (OwnR.empty (R := prec) wt53 61 (base := W.heap.size) Bwt53.out.size)
        clear hK K hHeld bwt63 Bwt53 KGwt53
        generalize wt53.heap.size = gwt63 at OBwt63 KGwt63 GLwt53 ⊢
        generalize wt53.alloc (.cells #[] 61) = wt63 at OBwt63 KGwt63 GLwt53 Bwt63 ⊢
        refine wpAnyH_ready (rs := [0]) (by kernel_rfl) (by simp) ?_
        refine ready_cons (i := 0) (o := ⟨_, _, _, _, _, _⟩) rfl ?_ AllReadyH.nil
        · intro K hK
          constructor
          go_simp
          have bwt64 := Bwt63.out.alloc Bwt63.out.size (.cells #[] 3)
          refine hK.out _ _ (HS.out _ bwt64) (fun hHeld => ?_)
          have Bwt64 := Lib.hid bwt64
          have OBwt64 := Lib.hid (OwnR.alloc OBwt63.out (.cells #[] 3))
          have KGwt64 := Lib.hid (kb_alloc KGwt63.out (.cells #[] 3))
          have OAwt64 := Lib.hid (OwnR.empty (R := irec) wt63 3 (base := W.heap.size) Bwt63.out.size)
          clear hK K hHeld bwt64 Bwt63 OBwt63 KGwt63
          generalize wt63.heap.size = gwt64 at OAwt64 OBwt64 KGwt64 GLwt53 ⊢
          generalize wt63.alloc (.cells #[] 3) = wt64 at OAwt64 OBwt64 KGwt64 GLwt53 Bwt64 ⊢
          refine wpAnyH_ready (rs := [3]) (by kernel_rfl) (by simp) ?_
          refine ready_cons (i := 3) (o := ⟨_, _, _, _, _, _⟩) rfl ?_ AllReadyH.nil
          · intro K hK
            refine Stepping.mk (appS_step tI (base := W.heap.size) rfl (.tmp 16) (.tmp 18) rfl rfl rfl OAwt64.out (HB.out.below Bwt64.out).ar LA.out Bwt64.out.size ?_)
            intro ywt65 wt65 own gr _
            have bwt65 := grown_base Bwt64.out Bwt64.out.size gr OAwt64.out
            have OBwt65 := Lib.hid (OwnR.other OBwt64.out gr OAwt64.out (by decide))
            have KGwt65 := Lib.hid (kept_other KGwt64.out gr OAwt64.out (by decide))
            obtain ⟨Nwt65, nwt65, cwt65, hv, _, _, _, _⟩ := own.row'
            subst hv
            have OAwt65 := Lib.hid own
            have Bwt65 := Lib.hid bwt65
            refine hK.out _ _ (HS.out _ bwt65) (fun hHeld => ?_)
            clear hK K own gr bwt65 Bwt64 OBwt64 KGwt64 OAwt64
            try go_frame
            refine wpAnyH_ready (rs := [7]) (by kernel_rfl) (by simp) ?_
            refine ready_cons (i := 7) (o := ⟨_, _, _, _, _, _⟩) rfl ?_ AllReadyH.nil
            · intro K hK
              refine Stepping.mk (appS_step tMR (base := W.heap.size) rfl (.tmp 20) (.tmp 22) rfl rfl rfl OBwt65.out (HB.out.below Bwt65.out).mr LB.out Bwt65.out.size ?_)
              intro ywt66 wt66 own gr _
              have bwt66 := grown_base Bwt65.out Bwt65.out.size gr OBwt65.out
              have OAwt66 := Lib.hid (OwnR.other OAwt65.out gr OBwt65.out (by decide))
              have KGwt66 := Lib.hid (kept_other KGwt65.out gr OBwt65.out (by decide))
              obtain ⟨Nwt66, nwt66, cwt66, hv, _, _, _, _⟩ := own.row'
              subst hv
              have OBwt66 := Lib.hid own
              have Bwt66 := Lib.hid bwt66
              refine hK.out _ _ (HS.out _ bwt66) (fun hHeld => ?_)
              clear hK K own gr bwt66 Bwt65 OAwt65 KGwt65 OBwt65
              try go_frame
              refine wpAnyH_take (i := 8) (oi := ⟨_, _, _, _, _, _⟩) (v := ?_) rfl (by kernel_rfl) (by kernel_rfl) (by kernel_rfl) (fun _ _ _ h => h) (Or.inl ⟨by rfl, ?_⟩) (by assumption) ?_
              rotate_left
              · intro w hSw; (try dsimp only at hSw); go_simp; try (with_reducible rfl)
              try go_frame
              refine wpAnyH_ready (rs := [10]) (by kernel_rfl) (by simp) ?_
              refine ready_cons (i := 10) (o := ⟨_, _, _, _, _, _⟩) rfl ?_ AllReadyH.nil
              · intro K hK
                have TW := twin_store Bwt66.out GLwt53.out KGwt66.out OAwt66.out OBwt66.out (by decide) (by decide)
                obtain ⟨z0, z1⟩ := bobj_cells KGwt66.out
                have zf0 := frozen_of KGwt66.out 0
                have zf1 := frozen_of KGwt66.out 1
                have HTW := Lib.hid TW
                clear TW
                constructor
                go_simp
                refine hK.out _ _ (HS.out _ HTW.out.low) (fun hHeld => ?_)
                clear hK K
                refine wpAnyH_done (by kernel_rfl) ?_ _
                go_wp2
                go_meet
                exact ⟨_, _, _, _, _, _, _, rfl, HTW.out⟩
  case rest =>
    obtain ⟨g, A1, n1, c1, M1, m1, d1, rfl, tw⟩ := hcut
    obtain rfl : n1 = n := by have h1 := tw.ra.row.1.1; have h2 := AL.out; omega
    obtain rfl : m1 = m := by have h1 := tw.rb.row.1.1; have h2 := MLn.out; omega
    have TW := Lib.hid tw
    have K1' := Lib.hid (kb_below K1.out tw.low)
    have K2' := Lib.hid (kb_below K2.out tw.low)
    obtain ⟨z0, z1⟩ := bobj_cells tw.blk
    obtain ⟨x0, x1⟩ := bobj_cells K1'.out
    have RES : Hid (∀ wx, Below W.heap.size W wx → wx.heap[w.heap.size + 1]? = some (bobj 25 none 0 0 none 0 0)) := Lib.hid (fun wx hb => kb_below K2.out hb)
    have LOW : Hid (∀ wx w7, Below W.heap.size W wx → Frm (· = w.heap.size + 1) wx w7 → Below w.heap.size w w7) := Lib.hid (fun wx w7 hb f => (BW.out.trans (hb.mono BW.out.size)).trans (f.below (by have := hb.size; have := BW.out.size; omega) (fun j hj e => by omega)))
    clear tw
    by_cases hx : x ∈ zs
    · have hlt := List.idxOf_lt_length_of_mem hx
      rw [HQ.out, AL.out] at hlt
      have hqn : ((q : Int) == (n1 : Int)) = false := by simp; omega
      have hwq : wf64 (q : Int) := wf_small (by omega)
      have E1 : Hid (addY zs x most = true ∧ addA zs x most = zs ∧ addM zs ms id x most = ms ++ [⟨id, (q : Int)⟩]) := Lib.hid ⟨by simp [addY, hx], by simp [addA, hx], by simp [addM, hx, HQ.out]⟩
      have WQ := Lib.hid hwq
      clear hx hlt hwq
      have O7 := Lib.hid (OwnR.alloc TW.out.rb (.cells #[.int .i64 id, .int .i64 (q : Int)] 61))
      have S7 := Lib.hid (RowR.one (R := prec) wc ⟨id, (q : Int)⟩ 61 (cs := #[.int .i64 id, .int .i64 (q : Int)]) rfl)
      have LN7 : Hid (ms.length + 1 ≤ 1048576) := Lib.hid (by rw [MLn.out]; omega)
      have B7 := Lib.hid (TW.out.low.alloc TW.out.low.size (.cells #[.int .i64 id, .int .i64 (q : Int)] 61))
      have zc1 : (wc.alloc (.cells #[.int .i64 id, .int .i64 (q : Int)] 61)).cell? ⟨g, 1, none⟩ = some (.slice M1 m1 d1) := cell_alloc z1 _
      go_wp2_with (first
        | (at_builtin; refine wpList_appS tMR (base := W.heap.size) rfl (.tmp 43) (.tmp 47) rfl rfl rfl O7.out S7.out LN7.out B7.out.size ?_;
           intro y9 w9 own gr _;
           have kg := kept_other (kb_alloc TW.out.blk (.cells #[.int .i64 id, .int .i64 (q : Int)] 61)) gr O7.out (by decide);
           have ra := OwnR.other (OwnR.alloc TW.out.ra (.cells #[.int .i64 id, .int .i64 (q : Int)] 61)) gr O7.out (by decide);
           have b9 := grown_base B7.out B7.out.size gr O7.out;
           obtain ⟨N9, n9, c9, hv, _, _, _, _⟩ := own.row'; subst hv;
           have TW9 := Lib.hid (twin_set1 b9 TW.out.ge kg ra own (by decide) (by decide));
           obtain ⟨v0, v1⟩ := bobj_cells kg; have vf0 := frozen_of kg 0; have vf1 := frozen_of kg 1;
           obtain ⟨t0, t1⟩ := bobj_cells TW9.out.blk;
           have K9 := Lib.hid (RES.out _ TW9.out.low);
           clear own gr kg ra b9 z0 z1 zc1)
        | (refine wpList_store_agg rfl 25 _ _ rfl (w.heap.size + 1) [.slice none 0 0, .slice none 0 0] [.slice A1 n1 c1, .slice N9 n9 c9] rfl rfl ?hz rfl sizeR (onesBB _ _ _ _ _ _) ?_; (case hz => exact K9.out); intro w7 k7 f7 _;
           have K7 := Lib.hid k7; have F7 := Lib.hid f7; clear k7 f7)
        | fail)
      refine bodyPost_ret (v := .tuple #[batV A1 n1 c1 N9 n9 c9, .bool true]) (results_agg1 Try.results33 rfl (loadR K7.out) rfl) rfl ?_
      obtain ⟨e1, e2, e3⟩ := E1.out
      rw [e1, e2, e3]
      have ha := TW9.out.ra.row
      have hb := TW9.out.rb.row
      exact ⟨_, _, _, _, _, _, rfl, Bat.stay ⟨ha.1, hb.1, ha.2.1, hb.2.1, fits_snoc HB.out.fits ⟨HI.out, WQ.out⟩⟩ F7.out K9.out, .inl ⟨TW9.out.ra.fresh.mono BW.out.size, TW9.out.rb.fresh.mono BW.out.size⟩, LOW.out _ _ TW9.out.low F7.out⟩
    · have hqn0 : q = n1 := by rw [← HQ.out, List.idxOf_eq_length hx, AL.out]
      subst hqn0
      by_cases hf : most ≤ (q : Int)
      · have E1 : Hid (addY zs x most = false ∧ addA zs x most = zs ∧ addM zs ms id x most = ms) := Lib.hid ⟨by simp [addY, hx, AL.out, hf], by simp [addA, hx, AL.out, hf], by simp [addM, hx, AL.out, hf]⟩
        clear hx
        go_wp2_with (first
          | (refine wpList_store_agg rfl 25 _ _ rfl (w.heap.size + 1) [.slice none 0 0, .slice none 0 0] [.slice A q c, .slice M m1 d] rfl rfl ?hz rfl sizeR (onesBB _ _ _ _ _ _) ?_; (case hz => exact K2'.out); intro w7 k7 f7 _;
             have K7 := Lib.hid k7; have F7 := Lib.hid f7; clear k7 f7))
        refine bodyPost_ret (v := .tuple #[batV A q c M m1 d, .bool false]) (results_agg1 Try.results33 rfl (loadR K7.out) rfl) rfl ?_
        obtain ⟨e1, e2, e3⟩ := E1.out
        rw [e1, e2, e3]
        exact ⟨_, _, _, _, _, _, rfl, (HB.out.below TW.out.low).stay F7.out K2'.out, .inr ⟨rfl, rfl, rfl, rfl⟩, LOW.out _ _ TW.out.low F7.out⟩
      · have hwq : wf64 (q : Int) := wf_small hn
        have E1 : Hid (addY zs x most = true ∧ addA zs x most = zs ++ [x] ∧ addM zs ms id x most = ms ++ [⟨id, (q : Int)⟩]) := Lib.hid ⟨by unfold addY; rw [decide_eq_true]; exact .inr (by rw [AL.out]; exact hf), by unfold addA; rw [if_neg hx, AL.out, if_neg hf], by unfold addM; rw [AL.out, if_pos (.inr hf), HQ.out]⟩
        have WQ := Lib.hid hwq
        have O6 := Lib.hid (OwnR.alloc TW.out.ra (.cells #[.int .i64 x] 3))
        have S6 := Lib.hid (RowR.one (R := irec) wc x 3 (cs := #[.int .i64 x]) rfl)
        have LN6 : Hid (zs.length + 1 ≤ 1048576) := Lib.hid (by rw [AL.out]; omega)
        have B6 := Lib.hid (TW.out.low.alloc TW.out.low.size (.cells #[.int .i64 x] 3))
        have hzc : (wc.alloc (.cells #[.int .i64 x] 3)).cell? ⟨g, 0, none⟩ = some (.slice A1 q c1) := cell_alloc z0 _
        clear hx hwq
        go_wp2_with (first
          | (at_builtin; refine wpList_appS tI (base := W.heap.size) rfl (.tmp 37) (.tmp 39) rfl rfl rfl O6.out S6.out LN6.out B6.out.size ?_;
             intro y8 w8 own gr _;
             have kg := kept_other (kb_alloc TW.out.blk (.cells #[.int .i64 x] 3)) gr O6.out (by decide);
             have rb := OwnR.other (OwnR.alloc TW.out.rb (.cells #[.int .i64 x] 3)) gr O6.out (by decide);
             have b8 := grown_base B6.out B6.out.size gr O6.out;
             obtain ⟨N8, n8, c8, hv, _, _, _, _⟩ := own.row'; subst hv;
             obtain rfl : n8 = q + 1 := (by have h1 := own.row.1.1; rw [List.length_append, AL.out] at h1; exact h1.symm);
             have TW8 := Lib.hid (twin_set0 b8 TW.out.ge kg own rb (by decide) (by decide));
             obtain ⟨y0, y1⟩ := bobj_cells kg; have yf0 := frozen_of kg 0; have yf1 := frozen_of kg 1;
             have O7 := Lib.hid (OwnR.alloc TW8.out.rb (.cells #[.int .i64 id, .int .i64 (q : Int)] 61));
             have S7 := Lib.hid (RowR.one (R := prec) (w8.setCell ⟨g, 0, none⟩ (.slice N8 (q + 1) c8)) ⟨id, (q : Int)⟩ 61 (cs := #[.int .i64 id, .int .i64 (q : Int)]) rfl);
             rw [show (w8.setCell ⟨g, 0, none⟩ (.slice N8 (q + 1) c8)).heap.size = w8.heap.size by simp] at S7;
             have LN7 : Hid (ms.length + 1 ≤ 1048576) := Lib.hid (by rw [MLn.out]; omega);
             have B7 := Lib.hid (TW8.out.low.alloc TW8.out.low.size (.cells #[.int .i64 id, .int .i64 (q : Int)] 61));
             have zc1 : ((w8.setCell ⟨g, 0, none⟩ (.slice N8 (q + 1) c8)).alloc (.cells #[.int .i64 id, .int .i64 (q : Int)] 61)).cell? ⟨g, 1, none⟩ = some (.slice M1 m1 d1) := cell_alloc (bobj_cells TW8.out.blk).2 _;
             clear own gr kg rb b8 z0 z1 hzc TW O6 S6 LN6 B6)
          | (at_builtin; refine wpList_appS tMR (base := W.heap.size) rfl (.tmp 43) (.tmp 47) rfl rfl rfl O7.out S7.out LN7.out B7.out.size ?_;
             intro y9 w9 own gr _;
             have kg := kept_other (kb_alloc TW8.out.blk (.cells #[.int .i64 id, .int .i64 (q : Int)] 61)) gr O7.out (by decide);
             have ra := OwnR.other (OwnR.alloc TW8.out.ra (.cells #[.int .i64 id, .int .i64 (q : Int)] 61)) gr O7.out (by decide);
             have b9 := grown_base B7.out B7.out.size gr O7.out;
             obtain ⟨N9, n9, c9, hv, _, _, _, _⟩ := own.row'; subst hv;
             have TW9 := Lib.hid (twin_set1 b9 TW8.out.ge kg ra own (by decide) (by decide));
             obtain ⟨v0, v1⟩ := bobj_cells kg; have vf0 := frozen_of kg 0; have vf1 := frozen_of kg 1;
             obtain ⟨t0, t1⟩ := bobj_cells TW9.out.blk;
             have K9 := Lib.hid (RES.out _ TW9.out.low);
             clear own gr kg ra b9 zc1 y0 y1 yf0 yf1)
          | (refine wpList_store_agg rfl 25 _ _ rfl (w.heap.size + 1) [.slice none 0 0, .slice none 0 0] [.slice N8 (q + 1) c8, .slice N9 n9 c9] rfl rfl ?hz rfl sizeR (onesBB _ _ _ _ _ _) ?_; (case hz => exact K9.out); intro w7 k7 f7 _;
             have K7 := Lib.hid k7; have F7 := Lib.hid f7; clear k7 f7)
          | fail)
        refine bodyPost_ret (v := .tuple #[batV N8 (q + 1) c8 N9 n9 c9, .bool true]) (results_agg1 Try.results33 rfl (loadR K7.out) rfl) rfl ?_
        obtain ⟨e1, e2, e3⟩ := E1.out
        rw [e1, e2, e3]
        have ha := TW9.out.ra.row
        have hb := TW9.out.rb.row
        exact ⟨_, _, _, _, _, _, rfl, Bat.stay ⟨ha.1, hb.1, ha.2.1, hb.2.1, fits_snoc HB.out.fits ⟨HI.out, WQ.out⟩⟩ F7.out K9.out, .inl ⟨TW9.out.ra.fresh.mono BW.out.size, TW9.out.rb.fresh.mono BW.out.size⟩, LOW.out _ _ TW9.out.low F7.out⟩
theorem bradd_any (A : Option Addr) (n c : Nat) (M : Option Addr) (m d : Nat) (zs : List Int) (ms : List P2) (id x most : Int) (w : World) (h : Bat w A n c M m d zs ms) (hid : wf64 id) (hn : n ≤ 1000) (hm : m ≤ 1000) :
    Calls Try.prog 33 #[batV A n c M m d, .int .i64 id, .int .i64 x, .int .i64 most] w fun r w' => ∃ A' n' c' M' m' d', r = .returned (.tuple #[batV A' n' c' M' m' d', .bool (addY zs x most)]) ∧ Bat w' A' n' c' M' m' d' (addA zs x most) (addM zs ms id x most) ∧ Below w.heap.size w w' := by
  refine (bradd_fr A n c M m d zs ms id x most w h hid hn hm).mono ?_
  rintro r w' ⟨A', n', c', M', m', d', rfl, hb, _, hl⟩
  exact ⟨A', n', c', M', m', d', rfl, hb, hl⟩
end Go.Proofs.Ytpfmjocpgnoepaa
