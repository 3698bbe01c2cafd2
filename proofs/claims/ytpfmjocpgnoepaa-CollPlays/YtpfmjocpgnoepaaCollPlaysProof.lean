/- What is proved: CollPlays of porpoiselaw14 answers true for every input, and leaves its arguments as they were; conditions: those of the given row alone. -/
import Derived.Test.YtpfmjocpgnoepaaKit
import Derived.Test.YtpfmjocpgnoepaaPlay14
import Derived.Deep.DeepCutAuto
namespace Go.Proofs.Ytpfmjocpgnoepaa.collPlays
open Go.ChangeShapes Go.WideShapes Go.ChangeAt Go.RowKit Go.Deep
open Go.ChangeMaps (open_string shut_string)
set_option linter.unusedVariables false

theorem own : ownKnob Try.prog.godebug = none := by kernel_rfl
theorem laidOut : laidOutB Try.prog = true := by kernel_rfl

/-- Where rows lie beside one block. -/
structure RO (g : Nat) (A : Option Addr) (n : Nat) (M : Option Addr) (m : Nat) (B : Option Addr) (k : Nat) (N : Option Addr) (l : Nat) : Prop where
  a : Off (· = g) A n
  m : Off (· = g) M m
  b : Off (· = g) B k
  n : Off (· = g) N l
theorem RO.of {F : Nat → Prop} {g : Nat} {A : Option Addr} {n : Nat} {M : Option Addr} {m : Nat} {B : Option Addr} {k : Nat} {N : Option Addr} {l : Nat} (h : (Off F A n ∧ Off F M m) ∧ (Off F B k ∧ Off F N l)) (hg : F g) : RO g A n M m B k N l :=
  ⟨h.1.1.mono (fun j e => by rw [show j = g from e]; exact hg), h.1.2.mono (fun j e => by rw [show j = g from e]; exact hg), h.2.1.mono (fun j e => by rw [show j = g from e]; exact hg), h.2.2.mono (fun j e => by rw [show j = g from e]; exact hg)⟩
theorem RO.new {w : World} {A M B N : Option Addr} {n c m d k e l f : Nat} {zs : List Int} {ms : List P2} {zs' : List Int} {ms' : List P2} (h : Bat w A n c M m d zs ms) (h' : Bat w B k e N l f zs' ms') : RO w.heap.size A n M m B k N l :=
  ⟨h.offNew.1, h.offNew.2, h'.offNew.1, h'.offNew.2⟩

set_option maxRecDepth 100000 in
set_option maxHeartbeats 4000000 in
theorem walk (w : World) (a0 : Int) (w0 : (Lit.int .u64 a0).wf = true) (a1 : Int) (w1 : (Lit.int .i64 a1).wf = true) (a2 : Option Addr) (l2 k2 : Nat) (L2 : List (List Value)) (w2 : SliceIn w [.int .i64, .int .i64, .int .i64, .int .u64] 32 a2 l2 k2 L2) :
    Calls Try.prog 10 #[.int .u64 a0, .int .i64 a1, .slice a2 l2 k2] w fun e w' => e = .returned (.bool true) ∧ Below w.heap.size w w' := by
  obtain ⟨V, hrow, hfit, hlk, hkm⟩ := deeds_in w2
  obtain ⟨n, hn1, hn2, hn3⟩ := cap14 l2
  have hml := hrow.2.1
  unfold maxLen at hml
  have hW := wf_u64 w0
  have HR := Lib.hid hrow
  have HF := Lib.hid hfit
  have HW0 := Lib.hid hW
  clear w0 w1 w2 hrow hfit hlk hkm hW
  go_enter Try.func10, Try.ntmps10
  go_wp2_with fail
  refine (awake14_any w).mono ?_
  rintro r wa ⟨rfl, ba⟩
  have LA := Lib.hid ba
  clear ba
  go_wp2_with fail
  cases hok : newOk a0 a1 with
  | false =>
    have HOK := Lib.hid hok
    refine (new_none a0 a1 wa HW0.out.1 hok).mono ?_
    rintro r wz ⟨rfl, hz⟩
    rw [← hz]
    clear hz wz hok
    go_wp2_with fail
    refine (rnew_any a0 a1 wa HW0.out.1).mono ?_
    rw [HOK.out]
    rintro r wb ⟨rfl, bb⟩
    have LB := Lib.hid (LA.out.trans ((bb.trans ((below_alloc wb (.cells #[.int .u64 a0, .int .i64 a1, .bool false, .int .u64 0, .slice none 0 0, .slice none 0 0] 86)).mono bb.size)).mono LA.out.size))
    clear bb
    go_wp2
    go_ret
    exact ⟨rfl, LB.out⟩
  | true =>
    have HOK := Lib.hid hok
    refine (new_at a0 a1 wa HW0.out.1 hok).mono ?_
    rintro r w1 ⟨rfl, h1, b1⟩
    have C1 : Hid (∀ l, ColF w1 wa.heap.size ⟨a0, a1, [], [], 0⟩ l) := Lib.hid (fun l => ⟨_, _, _, _, _, _, h1, Fresh.none _, Fresh.none _⟩)
    have GB : Hid (w.heap.size ≤ wa.heap.size ∧ wa.heap.size < w1.heap.size) := Lib.hid ⟨LA.out.size, heap_lt h1.blk⟩
    have L1 := Lib.hid (LA.out.trans (b1.mono LA.out.size))
    clear h1 b1 hok LA
    go_wp2_with fail
    refine (rnew_any a0 a1 w1 HW0.out.1).mono ?_
    rw [HOK.out]
    rintro r wb ⟨rfl, bb⟩
    have KX : Hid ((wb.alloc (.cells #[.int .u64 a0, .int .i64 a1, .bool false, .int .u64 0, .slice none 0 0, .slice none 0 0] 86)).heap[wb.heap.size]? = some (rcobj a0 a1 false 0 none 0 0 none 0 0)) := Lib.hid (heap_alloc_at wb _)
    have LX : Hid (Below w1.heap.size w1 (wb.alloc (.cells #[.int .u64 a0, .int .i64 a1, .bool false, .int .u64 0, .slice none 0 0, .slice none 0 0] 86))) := Lib.hid (bb.alloc bb.size _)
    have GX : Hid (wa.heap.size < wb.heap.size) := Lib.hid (Nat.lt_of_lt_of_le GB.out.2 bb.size)
    clear bb
    go_upto_region 4 with fail
    generalize wb.alloc (.cells #[.int .u64 a0, .int .i64 a1, .bool false, .int .u64 0, .slice none 0 0, .slice none 0 0] 86) = wb1 at *
    have GW : Hid (w.heap.size ≤ wa.heap.size) := Lib.hid GB.out.1
    have CP0 : Hid (CP w wb1 wa.heap.size wb.heap.size a0 a1 ⟨a0, a1, [], [], 0⟩ 0 0 none 0 0 none 0 0) := Lib.hid ⟨rfl, rfl, Nat.le_refl _, Nat.le_refl _, (C1.out _).below LX.out, KX.out, Bat.nil _ _ _, ⟨Off.none _ _, Off.none _ _⟩, fun h => (by cases h), L1.out.trans (LX.out.mono L1.out.size)⟩
    clear C1 GB L1 KX LX
    generalize wa.heap.size = b at *
    generalize wb.heap.size = gx at *
    go_wp2
    go_loopg [12, 11] n (fun q v12 v11 wr => ∃ (i : Nat) (N : Int) (S : CO) (E : Int) (A : Option Addr) (k c : Nat) (M : Option Addr) (m e : Nat), i + q = n ∧ v12 = .int .i64 i ∧ v11 = .int .u64 N ∧ (0 ≤ N ∧ N ≤ 18446744073709551615) ∧ CP w wr b gx a0 a1 S i E A k c M m e)
    case atStart => exact ⟨0, 0, _, _, _, _, _, _, _, _, by omega, rfl, rfl, by decide, CP0.out⟩
    case round =>
      obtain ⟨i, N0, S, E, A, k, c, M, m, e, hq, rfl, rfl, hN0, hcp⟩ := hrel
      have G := Lib.hid hq
      have P := Lib.hid hcp
      have NB := Lib.hid hN0
      clear hq hcp hN0 CP0
      by_cases hin : i < n
      · have hi1 : (i : Int) < l2 := by omega
        have hi2 : (i : Int) < 100 := by omega
        obtain ⟨rb, off, d, rfl, hd, hlt, q0, q1, q2, q3⟩ := (HR.out.later P.out.low).deed_at (i := i) (by omega)
        have hlt0 := HR.out.lt rfl (by omega)
        have DF := Lib.hid (HF.out d (List.mem_of_getElem? hd))
        have hs : ∀ wx, Below w.heap.size wr wx → wx.cell? ⟨rb, off + i * 4 + 1, none⟩ = some (.int .i64 d.i) ∧ wx.cell? ⟨rb, off + i * 4 + 2, none⟩ = some (.int .i64 d.x) := fun wx hb => by
          have h := hb.block rb hlt0
          exact ⟨(World.cell?_of_block h).trans q1, (World.cell?_of_block h).trans q2⟩
        have HSW := Lib.hid hs
        have I100 : Hid (i < 100) := Lib.hid (by omega)
        clear hs hd hlt hlt0 q1 q2
        go_wp2_with fail
        refine (radd_any N0 d.t wr NB.out.1 DF.out.2.2.2.1 NB.out.2 DF.out.2.2.2.2).mono ?_
        rintro r wz ⟨rfl, hz⟩
        rw [← hz]
        obtain ⟨N, hN⟩ : ∃ N, addS N0 d.t = N := ⟨_, rfl⟩
        have NN : Hid (0 ≤ N ∧ N ≤ 18446744073709551615) := Lib.hid (by rw [← hN]; exact addS_bd NB.out.1 DF.out.2.2.2.1)
        rw [hN]
        clear hz wz hN NB q3
        go_upto_if 60 with fail
        clear q0
        go_cut [] (fun wq => ∃ (S' : CO) (E' : Int) (A' : Option Addr) (k' c' : Nat) (M' : Option Addr) (m' e' : Nat), CP w wq b gx a0 a1 S' (i + 1) E' A' k' c' M' m' e')
        case first =>
          by_cases hk1 : d.k = 1
          · have e1 : (d.k == 1) = true := by simp [hk1]
            have HK1 := Lib.hid hk1
            clear hk1
            go_upto_region 14 with fail
            clear e1
            go_cut [13] (fun v13 wq => ∃ (g : Nat) (A5 : Option Addr) (n5 c5 : Nat) (M5 : Option Addr) (m5 d5 : Nat), v13 = .pointer (some ⟨g, 0, none⟩) ∧ Told wr wq b g (S.next N d.i d.x) (S.step N d.i d.x) A5 n5 c5 M5 m5 d5)
            case first =>
              have CD : Hid (Col wr.drew b S) := Lib.hid (P.out.col.col.below (ali_below (drew_ali wr)))
              have LT : Hid (b < wr.drew.heap.size) := Lib.hid P.out.col.lt
              have FW : Hid (Frm (· = b) wr wr.drew) := Lib.hid (Frm.of_ali (drew_ali wr))
              have HADD : Hid (∀ wx, Col wx b S → Calls Try.prog 46 #[.pointer (some ⟨b, 0, none⟩), .int .u64 N, .int .i64 d.i, .int .i64 d.x] wx fun r w' => ∃ A n c M m e, r = .returned (stepV (S.step N d.i d.x).o (S.step N d.i d.x).r (S.step N d.i d.x).due A n c M m e) ∧ ColF w' b (S.next N d.i d.x) wx.heap.size ∧ Bat w' A n c M m e (S.step N d.i d.x).zs (S.step N d.i d.x).ms ∧ Fresh wx.heap.size A ∧ Fresh wx.heap.size M ∧ Frm (· = b) wx w') :=
                Lib.hid (fun wx h => add_told b S N d.i d.x wx h DF.out.2.1 (by have := P.out.zl; have := I100.out; omega) (by have := P.out.ml; have := I100.out; omega) (by rw [P.out.win]; exact HW0.out.1) (by rw [P.out.win]; exact HW0.out.2) NN.out.1 NN.out.2)
              have HS : Hid (∀ wx, Frm (· = b) wr.drew wx → wx.cell? ⟨rb, off + i * 4 + 1, none⟩ = some (.int .i64 d.i) ∧ wx.cell? ⟨rb, off + i * 4 + 2, none⟩ = some (.int .i64 d.x)) := Lib.hid (fun wx hf => HSW.out wx ((FW.out.trans hf (fun _ _ e => e)).below P.out.low.size (fun j hj e => by have := GW.out; omega)))
              clear HSW P HR HF DF G
              refine wp_region_held_drew (S := fun wx => wx.cell? ⟨rb, off + i * 4 + 1, none⟩ = some (.int .i64 d.i) ∧ wx.cell? ⟨rb, off + i * 4 + 2, none⟩ = some (.int .i64 d.x)) (by kernel_rfl) (HS.out _ (Frm.refl _ _)) (fun hHeld => ?_)
              generalize wr.drew = wd at *
              refine wpAnyH_take (i := 0) (oi := ⟨_, _, _, _, _, _⟩) (v := ?_) rfl (by kernel_rfl) (by kernel_rfl) (by kernel_rfl) (fun _ _ _ h => h) (Or.inl ⟨by rfl, ?_⟩) (by assumption) ?_
              rotate_left
              · intro w hSw; (try dsimp only at hSw); go_simp; try (with_reducible rfl)
              try go_frame
              refine wpAnyH_take (i := 1) (oi := ⟨_, _, _, _, _, _⟩) (v := ?_) rfl (by kernel_rfl) (by kernel_rfl) (by kernel_rfl) (fun _ _ _ h => h) (Or.inl ⟨by rfl, ?_⟩) (by assumption) ?_
              rotate_left
              · intro w hSw; (try dsimp only at hSw); go_simp; try (with_reducible rfl)
              try go_frame
              refine wpAnyH_take (i := 2) (oi := ⟨_, _, _, _, _, _⟩) (v := ?_) rfl (by kernel_rfl) (by kernel_rfl) (by kernel_rfl) (fun _ _ _ h => h) (Or.inl ⟨by rfl, ?_⟩) (by assumption) ?_
              rotate_left
              · intro w hSw; (try dsimp only at hSw); go_simp; try (with_reducible rfl)
              try go_frame
              refine wpAnyH_take (i := 3) (oi := ⟨_, _, _, _, _, _⟩) (v := ?_) rfl (by kernel_rfl) (by kernel_rfl) (by kernel_rfl) (fun _ _ _ h => h) (Or.inl ⟨by rfl, ?_⟩) (by assumption) ?_
              rotate_left
              · intro w hSw; (try dsimp only at hSw); go_simp; try (with_reducible rfl)
              try go_frame
              refine wpAnyH_take (i := 4) (oi := ⟨_, _, _, _, _, _⟩) (v := ?_) rfl (by kernel_rfl) (by kernel_rfl) (by kernel_rfl) (fun _ _ _ h => h) (Or.inl ⟨by rfl, ?_⟩) (by assumption) ?_
              rotate_left
              · intro w hSw; (try dsimp only at hSw); go_simp; try (with_reducible rfl)
              try go_frame
              refine wpAnyH_take (i := 5) (oi := ⟨_, _, _, _, _, _⟩) (v := ?_) rfl (by kernel_rfl) (by kernel_rfl) (by kernel_rfl) (fun _ _ _ h => h) (Or.inl ⟨by rfl, ?_⟩) (by assumption) ?_
              rotate_left
              · intro w hSw; (try dsimp only at hSw); go_simp; try (with_reducible rfl)
              try go_frame
              refine wpAnyH_take (i := 6) (oi := ⟨_, _, _, _, _, _⟩) (v := ?_) rfl (by kernel_rfl) (by kernel_rfl) (by kernel_rfl) (fun _ _ _ h => h) (Or.inl ⟨by rfl, ?_⟩) (by assumption) ?_
              rotate_left
              · intro w hSw; (try dsimp only at hSw); go_simp; try (with_reducible rfl)
              try go_frame
              refine wpAnyH_take (i := 7) (oi := ⟨_, _, _, _, _, _⟩) (v := ?_) rfl (by kernel_rfl) (by kernel_rfl) (by kernel_rfl) (fun _ _ _ h => h) (Or.inl ⟨by rfl, ?_⟩) (by assumption) ?_
              rotate_left
              · intro w hSw; (try dsimp only at hSw); go_simp; try (with_reducible rfl)
              try go_frame
              refine wpAnyH_take (i := 8) (oi := ⟨_, _, _, _, _, _⟩) (v := ?_) rfl (by kernel_rfl) (by kernel_rfl) (by kernel_rfl) (fun _ _ _ h => h) (Or.inl ⟨by rfl, ?_⟩) (by assumption) ?_
              rotate_left
              · intro w hSw; (try dsimp only at hSw); go_simp; try (with_reducible rfl)
              try go_frame
              refine wpAnyH_take (i := 9) (oi := ⟨_, _, _, _, _, _⟩) (v := ?_) rfl (by kernel_rfl) (by kernel_rfl) (by kernel_rfl) (fun _ _ _ h => h) (Or.inl ⟨by rfl, ?_⟩) (by assumption) ?_
              rotate_left
              · intro w hSw; (try dsimp only at hSw); go_simp; try (with_reducible rfl)
              try go_frame
              refine wpAnyH_take (i := 10) (oi := ⟨_, _, _, _, _, _⟩) (v := ?_) rfl (by kernel_rfl) (by kernel_rfl) (by kernel_rfl) (fun _ _ _ h => h) (Or.inl ⟨by rfl, ?_⟩) (by assumption) ?_
              rotate_left
              · intro w hSw; (try dsimp only at hSw); go_simp; try (with_reducible rfl)
              try go_frame
              refine wpAnyH_take (i := 11) (oi := ⟨_, _, _, _, _, _⟩) (v := ?_) rfl (by kernel_rfl) (by kernel_rfl) (by kernel_rfl) (fun _ _ _ h => h) (Or.inl ⟨by rfl, ?_⟩) (by assumption) ?_
              rotate_left
              · intro w hSw; (try dsimp only at hSw); go_simp; try (with_reducible rfl)
              try go_frame
              refine wpAnyH_ready (rs := [12, 13]) (by kernel_rfl) (by simp) ?_
              refine ready_cons (i := 12) (o := ⟨_, _, _, _, _, _⟩) rfl ?_ (ready_cons (i := 13) (o := ⟨_, _, _, _, _, _⟩) rfl ?_ AllReadyH.nil)
              · intro K hK
                refine call_step (f := 46) (args := #[.pointer (some ⟨b, 0, none⟩), .int .u64 N, .int .i64 d.i, .int .i64 d.x]) rfl (by kernel_rfl) ?_
                refine (HADD.out wd CD.out).mono ?_
                rintro r w5 ⟨A5, n5, c5, M5, m5, d5, rfl, h5, b5, p5, q5, f5⟩
                refine ⟨_, rfl, ?_⟩
                have F5 := Lib.hid f5
                have C5 := Lib.hid h5
                have B5 := Lib.hid b5
                have P5 := Lib.hid p5
                have Q5 := Lib.hid q5
                refine hK.out _ _ (HS.out _ F5.out) (fun hHeld => ?_)
                clear hK K h5 b5 p5 q5 f5
                try go_frame
                refine wpAnyH_ready (rs := [13]) (by kernel_rfl) (by simp) ?_
                refine ready_cons (i := 13) (o := ⟨_, _, _, _, _, _⟩) rfl ?_ AllReadyH.nil
                intro K hK
                constructor
                go_simp
                have F6 : Hid (Frm (· = b) wd (w5.alloc (.cells #[.bool false, .bool false, .int .u64 0, .slice none 0 0, .slice none 0 0] 93))) := Lib.hid (F5.out.then_below (below_alloc w5 _))
                have K6 : Hid ((w5.alloc (.cells #[.bool false, .bool false, .int .u64 0, .slice none 0 0, .slice none 0 0] 93)).heap[w5.heap.size]? = some (sobj false false 0 none 0 0 none 0 0)) := Lib.hid (heap_alloc_at w5 _)
                have C6 : Hid (ColF (w5.alloc (.cells #[.bool false, .bool false, .int .u64 0, .slice none 0 0, .slice none 0 0] 93)) b (S.next N d.i d.x) wd.heap.size) := Lib.hid (C5.out.below (below_alloc w5 _))
                have B6 : Hid (Bat (w5.alloc (.cells #[.bool false, .bool false, .int .u64 0, .slice none 0 0, .slice none 0 0] 93)) A5 n5 c5 M5 m5 d5 (S.step N d.i d.x).zs (S.step N d.i d.x).ms) := Lib.hid (B5.out.below (below_alloc w5 _))
                have NG : Hid (w5.heap.size ≠ b) := Lib.hid (by have := LT.out; have := F5.out.size; omega)
                have GG' : Hid (wd.heap.size ≤ w5.heap.size) := Lib.hid F5.out.size
                refine hK.out _ _ (HS.out _ F6.out) (fun hHeld => ?_)
                clear hK K F5 C5 B5
                generalize w5.alloc (.cells #[.bool false, .bool false, .int .u64 0, .slice none 0 0, .slice none 0 0] 93) = w6 at *
                generalize w5.heap.size = g at *
                have F5 := F6
                have C5 := C6
                have B5 := B6
                clear F6 C6 B6
                try go_frame
                refine wpAnyH_ready (rs := [14]) (by kernel_rfl) (by simp) ?_
                refine ready_cons (i := 14) (o := ⟨_, _, _, _, _, _⟩) rfl ?_ AllReadyH.nil
                intro K hK
                refine store_step rfl 93 _ _ rfl g 0 93 (svals false false 0 none 0 0 none 0 0) (svals (S.step N d.i d.x).o (S.step N d.i d.x).r (S.step N d.i d.x).due A5 n5 c5 M5 m5 d5) rfl rfl K6.out (Nat.le_refl _) sizeS (onesS _ _ _ _ _ _ _ _ _) ?_
                intro w7 k7 f7 _
                have told := told_put C5.out B5.out P5.out Q5.out F5.out K6.out GG'.out (fun e => NG.out e.symm) k7 f7
                refine hK.out _ _ (HS.out _ told.frm) (fun hHeld => ?_)
                clear hK K k7 f7
                try go_frame
                refine wpAnyH_done (by kernel_rfl) ?_ _
                go_wp2
                go_meet
                exact ⟨g, A5, n5, c5, M5, m5, d5, rfl, told.from FW.out⟩
              · intro K hK
                constructor
                go_simp
                have F6 : Hid (Frm (· = b) wd (wd.alloc (.cells #[.bool false, .bool false, .int .u64 0, .slice none 0 0, .slice none 0 0] 93))) := Lib.hid (Frm.of_below (below_alloc wd _))
                have K0 : Hid ((wd.alloc (.cells #[.bool false, .bool false, .int .u64 0, .slice none 0 0, .slice none 0 0] 93)).heap[wd.heap.size]? = some (sobj false false 0 none 0 0 none 0 0)) := Lib.hid (heap_alloc_at wd _)
                have C6 : Hid (Col (wd.alloc (.cells #[.bool false, .bool false, .int .u64 0, .slice none 0 0, .slice none 0 0] 93)) b S) := Lib.hid (CD.out.below (below_alloc wd _))
                have NG : Hid (wd.heap.size ≠ b) := Lib.hid (by have := LT.out; omega)
                have GG : Hid (wd.heap.size ≤ wd.heap.size) := Lib.hid (Nat.le_refl _)
                refine hK.out _ _ (HS.out _ F6.out) (fun hHeld => ?_)
                clear hK K
                generalize wd.alloc (.cells #[.bool false, .bool false, .int .u64 0, .slice none 0 0, .slice none 0 0] 93) = w6 at *
                obtain ⟨g, hg⟩ : ∃ g, wd.heap.size = g := ⟨_, rfl⟩
                rw [hg] at K0 NG
                have GG' : Hid (wd.heap.size ≤ g) := Lib.hid (Nat.le_of_eq hg)
                try rw [hg]
                clear hg GG
                try go_frame
                refine wpAnyH_ready (rs := [12]) (by kernel_rfl) (by simp) ?_
                refine ready_cons (i := 12) (o := ⟨_, _, _, _, _, _⟩) rfl ?_ AllReadyH.nil
                intro K hK
                refine call_step (f := 46) (args := #[.pointer (some ⟨b, 0, none⟩), .int .u64 N, .int .i64 d.i, .int .i64 d.x]) rfl (by kernel_rfl) ?_
                refine (HADD.out w6 C6.out).mono ?_
                rintro r w5 ⟨A5, n5, c5, M5, m5, d5, rfl, h5, b5, p5, q5, f5⟩
                refine ⟨_, rfl, ?_⟩
                have K6 := Lib.hid (carry f5 K0.out NG.out)
                have F5 := Lib.hid (F6.out.trans f5 (fun _ _ e => e))
                have C5 := Lib.hid (h5.mono F6.out.size)
                have B5 := Lib.hid b5
                have P5 := Lib.hid (p5.mono F6.out.size)
                have Q5 := Lib.hid (q5.mono F6.out.size)
                refine hK.out _ _ (HS.out _ F5.out) (fun hHeld => ?_)
                clear hK K h5 b5 p5 q5 f5 F6 K0 C6
                try go_frame
                refine wpAnyH_ready (rs := [14]) (by kernel_rfl) (by simp) ?_
                refine ready_cons (i := 14) (o := ⟨_, _, _, _, _, _⟩) rfl ?_ AllReadyH.nil
                intro K hK
                refine store_step rfl 93 _ _ rfl g 0 93 (svals false false 0 none 0 0 none 0 0) (svals (S.step N d.i d.x).o (S.step N d.i d.x).r (S.step N d.i d.x).due A5 n5 c5 M5 m5 d5) rfl rfl K6.out (Nat.le_refl _) sizeS (onesS _ _ _ _ _ _ _ _ _) ?_
                intro w7 k7 f7 _
                have told := told_put C5.out B5.out P5.out Q5.out F5.out K6.out GG'.out (fun e => NG.out e.symm) k7 f7
                refine hK.out _ _ (HS.out _ told.frm) (fun hHeld => ?_)
                clear hK K k7 f7
                try go_frame
                refine wpAnyH_done (by kernel_rfl) ?_ _
                go_wp2
                go_meet
                exact ⟨g, A5, n5, c5, M5, m5, d5, rfl, told.from FW.out⟩
            case rest =>
              obtain ⟨g, A5, n5, c5, M5, m5, d5, rfl, ht⟩ := hcut
              obtain ⟨o, ho⟩ : ∃ o, (!S.opn) = o := ⟨_, rfl⟩
              obtain ⟨y, hy⟩ : ∃ y, S.full1 d.x = y := ⟨_, rfl⟩
              obtain ⟨u, hu⟩ : ∃ u, (S.step N d.i d.x).due = u := ⟨_, rfl⟩
              have KT : Hid (wc.heap[g]? = some (sobj o y u A5 n5 c5 M5 m5 d5)) := Lib.hid (by rw [← ho, ← hy, ← hu]; exact ht.blk)
              have B5 := Lib.hid ht.bat
              have O5 : Hid (gx < wr.heap.size ∧ Fresh wr.heap.size A5 ∧ Fresh wr.heap.size M5) := Lib.hid ⟨heap_lt P.out.blk, ht.frA, ht.frM⟩
              have CN := Lib.hid ht.col
              have NGX : Hid (g ≠ gx) := Lib.hid (by have := heap_lt P.out.blk; have := ht.lt; omega)
              have L := Lib.hid (P.out.low.trans (ht.frm.below P.out.low.size (fun j hj e => by have := GW.out; omega)))
              have KX := Lib.hid (carry ht.frm P.out.blk (by have := GX.out; omega))
              have BX := Lib.hid (P.out.bat.offs P.out.offs.1 P.out.offs.2 (ht.frm.mono (fun j _ e => Or.inl e)))
              have HS2 : Hid (∀ wx, Below wc.heap.size wc wx → wx.cell? ⟨rb, off + i * 4 + 1, none⟩ = some (.int .i64 d.i) ∧ wx.cell? ⟨rb, off + i * 4 + 2, none⟩ = some (.int .i64 d.x)) := Lib.hid (fun wx hb => HSW.out wx ((ht.frm.below P.out.low.size (fun j hj e => by have := GW.out; omega)).trans (hb.mono L.out.size)))
              clear ht
              go_upto_region 15 with fail
              go_cut [14, 15] (fun v14 v15 wq => ∃ (gy gz : Nat) (A1 : Option Addr) (n1 c1 : Nat) (M1 : Option Addr) (m1 d1 : Nat) (A3 : Option Addr) (n3 c3 : Nat) (M3 : Option Addr) (m3 d3 : Nat), v14 = .pointer (some ⟨gy, 0, none⟩) ∧ v15 = .pointer (some ⟨gz, 0, none⟩) ∧ wq.heap[gy]? = some (rcobj a0 a1 (!S.full1 d.x) (S.endOf E N) A1 n1 c1 M1 m1 d1) ∧ wq.heap[gz]? = some (rsobj (!S.opn) (S.full1 d.x) (S.step N d.i d.x).due A3 n3 c3 M3 m3 d3) ∧ Bat wq A1 n1 c1 M1 m1 d1 (S.next N d.i d.x).zs (S.next N d.i d.x).ms ∧ Bat wq A3 n3 c3 M3 m3 d3 (S.step N d.i d.x).zs (S.step N d.i d.x).ms ∧ ((Off (fun j => j = b ∨ j = gx) A1 n1 ∧ Off (fun j => j = b ∨ j = gx) M1 m1) ∧ (Off (fun j => j = b ∨ j = gx) A3 n3 ∧ Off (fun j => j = b ∨ j = gx) M3 m3)) ∧ Below wc.heap.size wc wq ∧ wc.heap.size ≤ gy ∧ wc.heap.size ≤ gz)
              case first =>
                have DW : Hid (Below wc.heap.size wc wc.drew) := Lib.hid (ali_below (drew_ali _))
                have KD := Lib.hid (kb_below KX.out DW.out)
                have BD := Lib.hid (BX.out.below DW.out)
                have HS2D : Hid (∀ wx, Below wc.drew.heap.size wc.drew wx → wx.cell? ⟨rb, off + i * 4 + 1, none⟩ = some (.int .i64 d.i) ∧ wx.cell? ⟨rb, off + i * 4 + 2, none⟩ = some (.int .i64 d.x)) := Lib.hid (fun wx hb => HS2.out wx (DW.out.trans (hb.mono DW.out.size)))
                have LTB : Hid (b < wc.drew.heap.size ∧ gx < wc.drew.heap.size) := Lib.hid ⟨by have := GX.out; have := heap_lt KD.out; omega, heap_lt KD.out⟩
                generalize hwd : wc.drew = wd at *
                have HWD := Lib.hid hwd
                have HS : Hid (∀ wx, Below wd.heap.size wd wx → wx.cell? ⟨gx, 0, none⟩ = some (.int .u64 a0) ∧ wx.cell? ⟨gx, 1, none⟩ = some (.int .i64 a1) ∧ wx.cell? ⟨gx, 2, none⟩ = some (.bool S.opn) ∧ wx.cell? ⟨gx, 3, none⟩ = some (.int .u64 E) ∧ wx.cell? ⟨gx, 4, none⟩ = some (.slice A k c) ∧ wx.cell? ⟨gx, 5, none⟩ = some (.slice M m e) ∧ wx.cell? ⟨rb, off + i * 4 + 1, none⟩ = some (.int .i64 d.i) ∧ wx.cell? ⟨rb, off + i * 4 + 2, none⟩ = some (.int .i64 d.x)) := Lib.hid (fun wx hb => by
                  have k := kb_below KD.out hb
                  exact ⟨vobj_cell k rfl, vobj_cell k rfl, vobj_cell k rfl, vobj_cell k rfl, vobj_cell k rfl, vobj_cell k rfl, HS2D.out wx hb⟩)
                have H12 : Hid (∀ wx, Below wd.heap.size wd wx → Calls Try.prog 47 #[rcV a0 a1 S.opn E A k c M m e, .int .u64 N, .int .i64 d.i, .int .i64 d.x] wx fun r w' => ∃ A' n' c' M' m' d' A2 n2 c2 M2 m2 d2, r = .returned (.tuple #[rcV a0 a1 (!S.full1 d.x) (S.endOf E N) A' n' c' M' m' d', .agg #[.bool (!S.opn), .bool (S.full1 d.x), .int .u64 (S.step N d.i d.x).due, .slice A2 n2 c2, .slice M2 m2 d2]]) ∧ Bat w' A' n' c' M' m' d' (S.next N d.i d.x).zs (S.next N d.i d.x).ms ∧ Bat w' A2 n2 c2 M2 m2 d2 (S.step N d.i d.x).zs (S.step N d.i d.x).ms ∧ ((Off (fun j => (j = b ∨ j = gx) ∨ (wd.heap.size ≤ j ∧ j < wx.heap.size)) A' n' ∧ Off (fun j => (j = b ∨ j = gx) ∨ (wd.heap.size ≤ j ∧ j < wx.heap.size)) M' m') ∧ (Off (fun j => (j = b ∨ j = gx) ∨ (wd.heap.size ≤ j ∧ j < wx.heap.size)) A2 n2 ∧ Off (fun j => (j = b ∨ j = gx) ∨ (wd.heap.size ≤ j ∧ j < wx.heap.size)) M2 m2)) ∧ Below wx.heap.size wx w') := Lib.hid (fun wx hb => by
                  have hk := BD.out.alen
                  have hm := BD.out.mlen
                  have := rcadd_any (fun j => (j = b ∨ j = gx) ∨ (wd.heap.size ≤ j ∧ j < wx.heap.size)) S E A k c M m e N d.i d.x wx (BD.out.below hb)
                    (fun j hj => by have := hb.size; have := LTB.out; rcases hj with (rfl | rfl) | h <;> omega)
                    (fun b' off' e' h0 hj => by rcases hj with h | h; exact P.out.offs.1 b' off' e' h0 h; have := BD.out.ar.lt e' h0; omega)
                    (fun b' off' e' h0 hj => by rcases hj with h | h; exact P.out.offs.2 b' off' e' h0 h; have := BD.out.mr.lt e' h0; omega)
                    DF.out.2.1 (by have := P.out.zl; have := I100.out; omega) (by have := P.out.ml; have := I100.out; omega) (by rw [P.out.win]; exact HW0.out.1) (by rw [P.out.win]; exact HW0.out.2) NN.out.1 NN.out.2
                  rw [P.out.win, P.out.most] at this
                  exact this)
                have Lwd : Hid (Below wd.heap.size wd wd) := Lib.hid (Below.refl _ _)
                clear hwd ho hy hu
                refine wp_region_held_drew (S := fun wx => wx.cell? ⟨gx, 0, none⟩ = some (.int .u64 a0) ∧ wx.cell? ⟨gx, 1, none⟩ = some (.int .i64 a1) ∧ wx.cell? ⟨gx, 2, none⟩ = some (.bool S.opn) ∧ wx.cell? ⟨gx, 3, none⟩ = some (.int .u64 E) ∧ wx.cell? ⟨gx, 4, none⟩ = some (.slice A k c) ∧ wx.cell? ⟨gx, 5, none⟩ = some (.slice M m e) ∧ wx.cell? ⟨rb, off + i * 4 + 1, none⟩ = some (.int .i64 d.i) ∧ wx.cell? ⟨rb, off + i * 4 + 2, none⟩ = some (.int .i64 d.x)) (by kernel_rfl) (by rw [HWD.out]; exact HS.out _ Lwd.out) (fun hHeld => ?_)
                rw [HWD.out]
                rw [HWD.out] at hHeld
                refine wpAnyH_take (i := 0) (oi := ⟨_, _, _, _, _, _⟩) (v := ?_) rfl (by kernel_rfl) (by kernel_rfl) (by kernel_rfl) (fun _ _ _ h => h) (Or.inl ⟨by rfl, ?_⟩) (by assumption) ?_
                rotate_left
                · intro w hSw; (try dsimp only at hSw); go_simp; try (with_reducible rfl)
                try go_frame
                refine wpAnyH_take (i := 1) (oi := ⟨_, _, _, _, _, _⟩) (v := ?_) rfl (by kernel_rfl) (by kernel_rfl) (by kernel_rfl) (fun _ _ _ h => h) (Or.inl ⟨by rfl, ?_⟩) (by assumption) ?_
                rotate_left
                · intro w hSw; (try dsimp only at hSw); go_simp; try (with_reducible rfl)
                try go_frame
                refine wpAnyH_take (i := 2) (oi := ⟨_, _, _, _, _, _⟩) (v := ?_) rfl (by kernel_rfl) (by kernel_rfl) (by kernel_rfl) (fun _ _ _ h => h) (Or.inl ⟨by rfl, ?_⟩) (by assumption) ?_
                rotate_left
                · intro w hSw; (try dsimp only at hSw); go_simp; try (with_reducible rfl)
                try go_frame
                refine wpAnyH_take (i := 3) (oi := ⟨_, _, _, _, _, _⟩) (v := ?_) rfl (by kernel_rfl) (by kernel_rfl) (by kernel_rfl) (fun _ _ _ h => h) (Or.inl ⟨by rfl, ?_⟩) (by assumption) ?_
                rotate_left
                · intro w hSw; (try dsimp only at hSw); go_simp; try (with_reducible rfl)
                try go_frame
                refine wpAnyH_take (i := 4) (oi := ⟨_, _, _, _, _, _⟩) (v := ?_) rfl (by kernel_rfl) (by kernel_rfl) (by kernel_rfl) (fun _ _ _ h => h) (Or.inl ⟨by rfl, ?_⟩) (by assumption) ?_
                rotate_left
                · intro w hSw; (try dsimp only at hSw); go_simp; try (with_reducible rfl)
                try go_frame
                refine wpAnyH_take (i := 5) (oi := ⟨_, _, _, _, _, _⟩) (v := ?_) rfl (by kernel_rfl) (by kernel_rfl) (by kernel_rfl) (fun _ _ _ h => h) (Or.inl ⟨by rfl, ?_⟩) (by assumption) ?_
                rotate_left
                · intro w hSw; (try dsimp only at hSw); go_simp; try (with_reducible rfl)
                try go_frame
                refine wpAnyH_take (i := 6) (oi := ⟨_, _, _, _, _, _⟩) (v := ?_) rfl (by kernel_rfl) (by kernel_rfl) (by kernel_rfl) (fun _ _ _ h => h) (Or.inl ⟨by rfl, ?_⟩) (by assumption) ?_
                rotate_left
                · intro w hSw; (try dsimp only at hSw); go_simp; try (with_reducible rfl)
                try go_frame
                refine wpAnyH_take (i := 7) (oi := ⟨_, _, _, _, _, _⟩) (v := ?_) rfl (by kernel_rfl) (by kernel_rfl) (by kernel_rfl) (fun _ _ _ h => h) (Or.inl ⟨by rfl, ?_⟩) (by assumption) ?_
                rotate_left
                · intro w hSw; (try dsimp only at hSw); go_simp; try (with_reducible rfl)
                try go_frame
                refine wpAnyH_take (i := 8) (oi := ⟨_, _, _, _, _, _⟩) (v := ?_) rfl (by kernel_rfl) (by kernel_rfl) (by kernel_rfl) (fun _ _ _ h => h) (Or.inl ⟨by rfl, ?_⟩) (by assumption) ?_
                rotate_left
                · intro w hSw; (try dsimp only at hSw); go_simp; try (with_reducible rfl)
                try go_frame
                refine wpAnyH_take (i := 9) (oi := ⟨_, _, _, _, _, _⟩) (v := ?_) rfl (by kernel_rfl) (by kernel_rfl) (by kernel_rfl) (fun _ _ _ h => h) (Or.inl ⟨by rfl, ?_⟩) (by assumption) ?_
                rotate_left
                · intro w hSw; (try dsimp only at hSw); go_simp; try (with_reducible rfl)
                try go_frame
                refine wpAnyH_take (i := 10) (oi := ⟨_, _, _, _, _, _⟩) (v := ?_) rfl (by kernel_rfl) (by kernel_rfl) (by kernel_rfl) (fun _ _ _ h => h) (Or.inl ⟨by rfl, ?_⟩) (by assumption) ?_
                rotate_left
                · intro w hSw; (try dsimp only at hSw); go_simp; try (with_reducible rfl)
                try go_frame
                refine wpAnyH_take (i := 11) (oi := ⟨_, _, _, _, _, _⟩) (v := ?_) rfl (by kernel_rfl) (by kernel_rfl) (by kernel_rfl) (fun _ _ _ h => h) (Or.inl ⟨by rfl, ?_⟩) (by assumption) ?_
                rotate_left
                · intro w hSw; (try dsimp only at hSw); go_simp; try (with_reducible rfl)
                try go_frame
                refine wpAnyH_ready (rs := [12, 16, 17]) (by kernel_rfl) (by simp) ?_
                refine ready_cons (i := 12) (o := ⟨_, _, _, _, _, _⟩) rfl ?_ (ready_cons (i := 16) (o := ⟨_, _, _, _, _, _⟩) rfl ?_ (ready_cons (i := 17) (o := ⟨_, _, _, _, _, _⟩) rfl ?_ AllReadyH.nil))
                · intro K hK
                  refine call_step (f := 47) (args := #[rcV a0 a1 S.opn E A k c M m e, .int .u64 N, .int .i64 d.i, .int .i64 d.x]) rfl (by kernel_rfl) ?_
                  refine (H12.out wd Lwd.out).mono ?_
                  rintro r w5 ⟨A1, n1, c1, M1, m1, d1, A3, n3, c3, M3, m3, d3, rfl, h1, h3, ho, l5⟩
                  refine ⟨_, rfl, ?_⟩
                  have B1 := Lib.hid h1
                  have B3 := Lib.hid h3
                  have Lw5 := Lib.hid (Lwd.out.trans (l5.mono Lwd.out.size))
                  have OB : Hid ((Off (fun j => j = b ∨ j = gx) A1 n1 ∧ Off (fun j => j = b ∨ j = gx) M1 m1) ∧ (Off (fun j => j = b ∨ j = gx) A3 n3 ∧ Off (fun j => j = b ∨ j = gx) M3 m3)) := Lib.hid ⟨⟨ho.1.1.mono (fun j e => .inl e), ho.1.2.mono (fun j e => .inl e)⟩, ⟨ho.2.1.mono (fun j e => .inl e), ho.2.2.mono (fun j e => .inl e)⟩⟩
                  refine hK.out _ _ (HS.out _ Lw5.out) (fun hHeld => ?_)
                  clear hK h1 h3 ho l5
                  try go_frame
                  refine wpAnyH_take (i := 13) (oi := ⟨_, _, _, _, _, _⟩) (v := ?_) rfl (by kernel_rfl) (by kernel_rfl) (by kernel_rfl) (fun _ _ _ h => h) (Or.inl ⟨by rfl, ?_⟩) (by assumption) ?_
                  rotate_left
                  · intro w hSw; (try dsimp only at hSw); go_simp; try (with_reducible rfl)
                  try go_frame
                  refine wpAnyH_take (i := 14) (oi := ⟨_, _, _, _, _, _⟩) (v := ?_) rfl (by kernel_rfl) (by kernel_rfl) (by kernel_rfl) (fun _ _ _ h => h) (Or.inl ⟨by rfl, ?_⟩) (by assumption) ?_
                  rotate_left
                  · intro w hSw; (try dsimp only at hSw); go_simp; try (with_reducible rfl)
                  try go_frame
                  refine wpAnyH_take (i := 15) (oi := ⟨_, _, _, _, _, _⟩) (v := ?_) rfl (by kernel_rfl) (by kernel_rfl) (by kernel_rfl) (fun _ _ _ h => h) (Or.inl ⟨by rfl, ?_⟩) (by assumption) ?_
                  rotate_left
                  · intro w hSw; (try dsimp only at hSw); go_simp; try (with_reducible rfl)
                  try go_frame
                  refine wpAnyH_ready (rs := [16, 17]) (by kernel_rfl) (by simp) ?_
                  refine ready_cons (i := 16) (o := ⟨_, _, _, _, _, _⟩) rfl ?_ (ready_cons (i := 17) (o := ⟨_, _, _, _, _, _⟩) rfl ?_ AllReadyH.nil)
                  · intro K hK
                    constructor
                    go_simp
                    have KY : Hid ((w5.alloc (.cells #[.int .u64 0, .int .i64 0, .bool false, .int .u64 0, .slice none 0 0, .slice none 0 0] 86)).heap[w5.heap.size]? = some (rcobj 0 0 false 0 none 0 0 none 0 0)) := Lib.hid (heap_alloc_at w5 _)
                    have Lwy : Hid (Below wd.heap.size wd (w5.alloc (.cells #[.int .u64 0, .int .i64 0, .bool false, .int .u64 0, .slice none 0 0, .slice none 0 0] 86))) := Lib.hid (Lw5.out.alloc Lw5.out.size _)
                    have GY : Hid (wd.heap.size ≤ w5.heap.size) := Lib.hid Lw5.out.size
                    have OY : Hid (RO w5.heap.size A1 n1 M1 m1 A3 n3 M3 m3) := Lib.hid (RO.new B1.out B3.out)
                    have B11 := Lib.hid (B1.out.below (below_alloc w5 (.cells #[.int .u64 0, .int .i64 0, .bool false, .int .u64 0, .slice none 0 0, .slice none 0 0] 86)))
                    have B1 := B11
                    have B31 := Lib.hid (B3.out.below (below_alloc w5 (.cells #[.int .u64 0, .int .i64 0, .bool false, .int .u64 0, .slice none 0 0, .slice none 0 0] 86)))
                    have B3 := B31
                    clear B11 B31
                    refine hK.out _ _ (HS.out _ Lwy.out) (fun hHeld => ?_)
                    clear hK
                    generalize w5.alloc (.cells #[.int .u64 0, .int .i64 0, .bool false, .int .u64 0, .slice none 0 0, .slice none 0 0] 86) = wy at *
                    generalize hgx : w5.heap.size = gy at *
                    clear hgx
                    try go_frame
                    refine wpAnyH_ready (rs := [17]) (by kernel_rfl) (by simp) ?_
                    refine ready_cons (i := 17) (o := ⟨_, _, _, _, _, _⟩) rfl ?_ AllReadyH.nil
                    intro K hK
                    constructor
                    go_simp
                    have KZ : Hid ((wy.alloc (.cells #[.bool false, .bool false, .int .u64 0, .slice none 0 0, .slice none 0 0] 96)).heap[wy.heap.size]? = some (rsobj false false 0 none 0 0 none 0 0)) := Lib.hid (heap_alloc_at wy _)
                    have Lwz : Hid (Below wd.heap.size wd (wy.alloc (.cells #[.bool false, .bool false, .int .u64 0, .slice none 0 0, .slice none 0 0] 96))) := Lib.hid (Lwy.out.alloc Lwy.out.size _)
                    have GZ : Hid (wd.heap.size ≤ wy.heap.size) := Lib.hid Lwy.out.size
                    have NE : Hid (wy.heap.size ≠ gy) := Lib.hid (by have := heap_lt KY.out; omega)
                    have KY1 := Lib.hid (kb_alloc KY.out (.cells #[.bool false, .bool false, .int .u64 0, .slice none 0 0, .slice none 0 0] 96))
                    have KY := KY1
                    clear KY1
                    have OZ : Hid (RO wy.heap.size A1 n1 M1 m1 A3 n3 M3 m3) := Lib.hid (RO.new B1.out B3.out)
                    have B11 := Lib.hid (B1.out.below (below_alloc wy (.cells #[.bool false, .bool false, .int .u64 0, .slice none 0 0, .slice none 0 0] 96)))
                    have B1 := B11
                    have B31 := Lib.hid (B3.out.below (below_alloc wy (.cells #[.bool false, .bool false, .int .u64 0, .slice none 0 0, .slice none 0 0] 96)))
                    have B3 := B31
                    clear B11 B31
                    refine hK.out _ _ (HS.out _ Lwz.out) (fun hHeld => ?_)
                    clear hK
                    generalize wy.alloc (.cells #[.bool false, .bool false, .int .u64 0, .slice none 0 0, .slice none 0 0] 96) = wz at *
                    generalize hgx : wy.heap.size = gz at *
                    clear hgx
                    try go_frame
                    refine wpAnyH_ready (rs := [18]) (by kernel_rfl) (by simp) ?_
                    refine ready_cons (i := 18) (o := ⟨_, _, _, _, _, _⟩) rfl ?_ AllReadyH.nil
                    intro K hK
                    refine store_step rfl 86 _ _ rfl gy 0 86 (rvals 0 0 false 0 none 0 0 none 0 0) (rvals a0 a1 (!S.full1 d.x) (S.endOf E N) A1 n1 c1 M1 m1 d1) rfl rfl KY.out (Nat.le_refl _) sizeRC (onesRC _ _ _ _ _ _ _ _ _ _) ?_
                    intro w8 k8 f8 z8
                    clear z8
                    have K8 : Hid (w8.heap[gy]? = some (rcobj a0 a1 (!S.full1 d.x) (S.endOf E N) A1 n1 c1 M1 m1 d1)) := Lib.hid k8
                    have L8 : Hid (Below wd.heap.size wd w8) := Lib.hid (Lwz.out.trans (f8.below Lwz.out.size (fun j hj e => by have := GY.out; omega)))
                    have B18 := Lib.hid (B1.out.offs OY.out.a OY.out.m f8)
                    have B38 := Lib.hid (B3.out.offs OY.out.b OY.out.n f8)
                    have KZ8 := Lib.hid (carry f8 KZ.out NE.out)
                    refine hK.out _ _ (HS.out _ L8.out) (fun hHeld => ?_)
                    clear hK k8 f8 B1 B3 KZ
                    try go_frame
                    refine wpAnyH_ready (rs := [19]) (by kernel_rfl) (by simp) ?_
                    refine ready_cons (i := 19) (o := ⟨_, _, _, _, _, _⟩) rfl ?_ AllReadyH.nil
                    intro K hK
                    refine store_step rfl 96 _ _ rfl gz 0 96 (svals false false 0 none 0 0 none 0 0) (svals (!S.opn) (S.full1 d.x) (S.step N d.i d.x).due A3 n3 c3 M3 m3 d3) rfl rfl KZ8.out (Nat.le_refl _) sizeRS (onesS _ _ _ _ _ _ _ _ _) ?_
                    intro w9 k9 f9 z9
                    clear z9
                    have K9 : Hid (w9.heap[gz]? = some (rsobj (!S.opn) (S.full1 d.x) (S.step N d.i d.x).due A3 n3 c3 M3 m3 d3)) := Lib.hid k9
                    have L9 : Hid (Below wd.heap.size wd w9) := Lib.hid (L8.out.trans (f9.below L8.out.size (fun j hj e => by have := GZ.out; omega)))
                    have B19 := Lib.hid (B18.out.offs OZ.out.a OZ.out.m f9)
                    have B39 := Lib.hid (B38.out.offs OZ.out.b OZ.out.n f9)
                    have K89 := Lib.hid (carry f9 K8.out (Ne.symm NE.out))
                    refine hK.out _ _ (HS.out _ L9.out) (fun hHeld => ?_)
                    clear hK k9 f9
                    try go_frame
                    refine wpAnyH_done (by kernel_rfl) ?_ _
                    go_wp2
                    go_meet
                    exact ⟨gy, gz, A1, n1, c1, M1, m1, d1, A3, n3, c3, M3, m3, d3, rfl, rfl, K89.out, K9.out, B19.out, B39.out, OB.out, DW.out.trans (L9.out.mono DW.out.size), Nat.le_trans DW.out.size GY.out, Nat.le_trans DW.out.size GZ.out⟩
                  · intro K hK
                    constructor
                    go_simp
                    have KZ : Hid ((w5.alloc (.cells #[.bool false, .bool false, .int .u64 0, .slice none 0 0, .slice none 0 0] 96)).heap[w5.heap.size]? = some (rsobj false false 0 none 0 0 none 0 0)) := Lib.hid (heap_alloc_at w5 _)
                    have Lwz : Hid (Below wd.heap.size wd (w5.alloc (.cells #[.bool false, .bool false, .int .u64 0, .slice none 0 0, .slice none 0 0] 96))) := Lib.hid (Lw5.out.alloc Lw5.out.size _)
                    have GZ : Hid (wd.heap.size ≤ w5.heap.size) := Lib.hid Lw5.out.size
                    have OZ : Hid (RO w5.heap.size A1 n1 M1 m1 A3 n3 M3 m3) := Lib.hid (RO.new B1.out B3.out)
                    have B11 := Lib.hid (B1.out.below (below_alloc w5 (.cells #[.bool false, .bool false, .int .u64 0, .slice none 0 0, .slice none 0 0] 96)))
                    have B1 := B11
                    have B31 := Lib.hid (B3.out.below (below_alloc w5 (.cells #[.bool false, .bool false, .int .u64 0, .slice none 0 0, .slice none 0 0] 96)))
                    have B3 := B31
                    clear B11 B31
                    refine hK.out _ _ (HS.out _ Lwz.out) (fun hHeld => ?_)
                    clear hK
                    generalize w5.alloc (.cells #[.bool false, .bool false, .int .u64 0, .slice none 0 0, .slice none 0 0] 96) = wz at *
                    generalize hgx : w5.heap.size = gz at *
                    clear hgx
                    try go_frame
                    refine wpAnyH_ready (rs := [16]) (by kernel_rfl) (by simp) ?_
                    refine ready_cons (i := 16) (o := ⟨_, _, _, _, _, _⟩) rfl ?_ AllReadyH.nil
                    intro K hK
                    constructor
                    go_simp
                    have KY : Hid ((wz.alloc (.cells #[.int .u64 0, .int .i64 0, .bool false, .int .u64 0, .slice none 0 0, .slice none 0 0] 86)).heap[wz.heap.size]? = some (rcobj 0 0 false 0 none 0 0 none 0 0)) := Lib.hid (heap_alloc_at wz _)
                    have Lwy : Hid (Below wd.heap.size wd (wz.alloc (.cells #[.int .u64 0, .int .i64 0, .bool false, .int .u64 0, .slice none 0 0, .slice none 0 0] 86))) := Lib.hid (Lwz.out.alloc Lwz.out.size _)
                    have GY : Hid (wd.heap.size ≤ wz.heap.size) := Lib.hid Lwz.out.size
                    have NE : Hid (gz ≠ wz.heap.size) := Lib.hid (by have := heap_lt KZ.out; omega)
                    have KZ1 := Lib.hid (kb_alloc KZ.out (.cells #[.int .u64 0, .int .i64 0, .bool false, .int .u64 0, .slice none 0 0, .slice none 0 0] 86))
                    have KZ := KZ1
                    clear KZ1
                    have OY : Hid (RO wz.heap.size A1 n1 M1 m1 A3 n3 M3 m3) := Lib.hid (RO.new B1.out B3.out)
                    have B11 := Lib.hid (B1.out.below (below_alloc wz (.cells #[.int .u64 0, .int .i64 0, .bool false, .int .u64 0, .slice none 0 0, .slice none 0 0] 86)))
                    have B1 := B11
                    have B31 := Lib.hid (B3.out.below (below_alloc wz (.cells #[.int .u64 0, .int .i64 0, .bool false, .int .u64 0, .slice none 0 0, .slice none 0 0] 86)))
                    have B3 := B31
                    clear B11 B31
                    refine hK.out _ _ (HS.out _ Lwy.out) (fun hHeld => ?_)
                    clear hK
                    generalize wz.alloc (.cells #[.int .u64 0, .int .i64 0, .bool false, .int .u64 0, .slice none 0 0, .slice none 0 0] 86) = wy at *
                    generalize hgx : wz.heap.size = gy at *
                    clear hgx
                    try go_frame
                    refine wpAnyH_ready (rs := [18]) (by kernel_rfl) (by simp) ?_
                    refine ready_cons (i := 18) (o := ⟨_, _, _, _, _, _⟩) rfl ?_ AllReadyH.nil
                    intro K hK
                    refine store_step rfl 86 _ _ rfl gy 0 86 (rvals 0 0 false 0 none 0 0 none 0 0) (rvals a0 a1 (!S.full1 d.x) (S.endOf E N) A1 n1 c1 M1 m1 d1) rfl rfl KY.out (Nat.le_refl _) sizeRC (onesRC _ _ _ _ _ _ _ _ _ _) ?_
                    intro w8 k8 f8 z8
                    clear z8
                    have K8 : Hid (w8.heap[gy]? = some (rcobj a0 a1 (!S.full1 d.x) (S.endOf E N) A1 n1 c1 M1 m1 d1)) := Lib.hid k8
                    have L8 : Hid (Below wd.heap.size wd w8) := Lib.hid (Lwy.out.trans (f8.below Lwy.out.size (fun j hj e => by have := GY.out; omega)))
                    have B18 := Lib.hid (B1.out.offs OY.out.a OY.out.m f8)
                    have B38 := Lib.hid (B3.out.offs OY.out.b OY.out.n f8)
                    have KZ8 := Lib.hid (carry f8 KZ.out NE.out)
                    refine hK.out _ _ (HS.out _ L8.out) (fun hHeld => ?_)
                    clear hK k8 f8 B1 B3 KZ
                    try go_frame
                    refine wpAnyH_ready (rs := [19]) (by kernel_rfl) (by simp) ?_
                    refine ready_cons (i := 19) (o := ⟨_, _, _, _, _, _⟩) rfl ?_ AllReadyH.nil
                    intro K hK
                    refine store_step rfl 96 _ _ rfl gz 0 96 (svals false false 0 none 0 0 none 0 0) (svals (!S.opn) (S.full1 d.x) (S.step N d.i d.x).due A3 n3 c3 M3 m3 d3) rfl rfl KZ8.out (Nat.le_refl _) sizeRS (onesS _ _ _ _ _ _ _ _ _) ?_
                    intro w9 k9 f9 z9
                    clear z9
                    have K9 : Hid (w9.heap[gz]? = some (rsobj (!S.opn) (S.full1 d.x) (S.step N d.i d.x).due A3 n3 c3 M3 m3 d3)) := Lib.hid k9
                    have L9 : Hid (Below wd.heap.size wd w9) := Lib.hid (L8.out.trans (f9.below L8.out.size (fun j hj e => by have := GZ.out; omega)))
                    have B19 := Lib.hid (B18.out.offs OZ.out.a OZ.out.m f9)
                    have B39 := Lib.hid (B38.out.offs OZ.out.b OZ.out.n f9)
                    have K89 := Lib.hid (carry f9 K8.out (Ne.symm NE.out))
                    refine hK.out _ _ (HS.out _ L9.out) (fun hHeld => ?_)
                    clear hK k9 f9
                    try go_frame
                    refine wpAnyH_done (by kernel_rfl) ?_ _
                    go_wp2
                    go_meet
                    exact ⟨gy, gz, A1, n1, c1, M1, m1, d1, A3, n3, c3, M3, m3, d3, rfl, rfl, K89.out, K9.out, B19.out, B39.out, OB.out, DW.out.trans (L9.out.mono DW.out.size), Nat.le_trans DW.out.size GY.out, Nat.le_trans DW.out.size GZ.out⟩
                · intro K hK
                  constructor
                  go_simp
                  have KY : Hid ((wd.alloc (.cells #[.int .u64 0, .int .i64 0, .bool false, .int .u64 0, .slice none 0 0, .slice none 0 0] 86)).heap[wd.heap.size]? = some (rcobj 0 0 false 0 none 0 0 none 0 0)) := Lib.hid (heap_alloc_at wd _)
                  have Lwy : Hid (Below wd.heap.size wd (wd.alloc (.cells #[.int .u64 0, .int .i64 0, .bool false, .int .u64 0, .slice none 0 0, .slice none 0 0] 86))) := Lib.hid (Lwd.out.alloc Lwd.out.size _)
                  have GY : Hid (wd.heap.size ≤ wd.heap.size) := Lib.hid Lwd.out.size
                  refine hK.out _ _ (HS.out _ Lwy.out) (fun hHeld => ?_)
                  clear hK
                  generalize wd.alloc (.cells #[.int .u64 0, .int .i64 0, .bool false, .int .u64 0, .slice none 0 0, .slice none 0 0] 86) = wy at *
                  obtain ⟨gy, hg⟩ : ∃ gy, wd.heap.size = gy := ⟨_, rfl⟩
                  rw [hg] at KY
                  clear GY
                  have GY : Hid (wd.heap.size ≤ gy) := Lib.hid (Nat.le_of_eq hg)
                  try rw [hg]
                  clear hg
                  try go_frame
                  refine wpAnyH_ready (rs := [12, 17]) (by kernel_rfl) (by simp) ?_
                  refine ready_cons (i := 12) (o := ⟨_, _, _, _, _, _⟩) rfl ?_ (ready_cons (i := 17) (o := ⟨_, _, _, _, _, _⟩) rfl ?_ AllReadyH.nil)
                  · intro K hK
                    refine call_step (f := 47) (args := #[rcV a0 a1 S.opn E A k c M m e, .int .u64 N, .int .i64 d.i, .int .i64 d.x]) rfl (by kernel_rfl) ?_
                    refine (H12.out wy Lwy.out).mono ?_
                    rintro r w5 ⟨A1, n1, c1, M1, m1, d1, A3, n3, c3, M3, m3, d3, rfl, h1, h3, ho, l5⟩
                    refine ⟨_, rfl, ?_⟩
                    have B1 := Lib.hid h1
                    have B3 := Lib.hid h3
                    have Lw5 := Lib.hid (Lwy.out.trans (l5.mono Lwy.out.size))
                    have OB : Hid ((Off (fun j => j = b ∨ j = gx) A1 n1 ∧ Off (fun j => j = b ∨ j = gx) M1 m1) ∧ (Off (fun j => j = b ∨ j = gx) A3 n3 ∧ Off (fun j => j = b ∨ j = gx) M3 m3)) := Lib.hid ⟨⟨ho.1.1.mono (fun j e => .inl e), ho.1.2.mono (fun j e => .inl e)⟩, ⟨ho.2.1.mono (fun j e => .inl e), ho.2.2.mono (fun j e => .inl e)⟩⟩
                    have OY : Hid (RO gy A1 n1 M1 m1 A3 n3 M3 m3) := Lib.hid (RO.of ho (.inr ⟨GY.out, heap_lt KY.out⟩))
                    have KY1 := Lib.hid (kb_below KY.out l5)
                    have KY := KY1
                    clear KY1
                    refine hK.out _ _ (HS.out _ Lw5.out) (fun hHeld => ?_)
                    clear hK h1 h3 ho l5
                    try go_frame
                    refine wpAnyH_take (i := 13) (oi := ⟨_, _, _, _, _, _⟩) (v := ?_) rfl (by kernel_rfl) (by kernel_rfl) (by kernel_rfl) (fun _ _ _ h => h) (Or.inl ⟨by rfl, ?_⟩) (by assumption) ?_
                    rotate_left
                    · intro w hSw; (try dsimp only at hSw); go_simp; try (with_reducible rfl)
                    try go_frame
                    refine wpAnyH_take (i := 14) (oi := ⟨_, _, _, _, _, _⟩) (v := ?_) rfl (by kernel_rfl) (by kernel_rfl) (by kernel_rfl) (fun _ _ _ h => h) (Or.inl ⟨by rfl, ?_⟩) (by assumption) ?_
                    rotate_left
                    · intro w hSw; (try dsimp only at hSw); go_simp; try (with_reducible rfl)
                    try go_frame
                    refine wpAnyH_take (i := 15) (oi := ⟨_, _, _, _, _, _⟩) (v := ?_) rfl (by kernel_rfl) (by kernel_rfl) (by kernel_rfl) (fun _ _ _ h => h) (Or.inl ⟨by rfl, ?_⟩) (by assumption) ?_
                    rotate_left
                    · intro w hSw; (try dsimp only at hSw); go_simp; try (with_reducible rfl)
                    try go_frame
                    refine wpAnyH_ready (rs := [17]) (by kernel_rfl) (by simp) ?_
                    refine ready_cons (i := 17) (o := ⟨_, _, _, _, _, _⟩) rfl ?_ AllReadyH.nil
                    intro K hK
                    constructor
                    go_simp
                    have KZ : Hid ((w5.alloc (.cells #[.bool false, .bool false, .int .u64 0, .slice none 0 0, .slice none 0 0] 96)).heap[w5.heap.size]? = some (rsobj false false 0 none 0 0 none 0 0)) := Lib.hid (heap_alloc_at w5 _)
                    have Lwz : Hid (Below wd.heap.size wd (w5.alloc (.cells #[.bool false, .bool false, .int .u64 0, .slice none 0 0, .slice none 0 0] 96))) := Lib.hid (Lw5.out.alloc Lw5.out.size _)
                    have GZ : Hid (wd.heap.size ≤ w5.heap.size) := Lib.hid Lw5.out.size
                    have NE : Hid (w5.heap.size ≠ gy) := Lib.hid (by have := heap_lt KY.out; omega)
                    have KY1 := Lib.hid (kb_alloc KY.out (.cells #[.bool false, .bool false, .int .u64 0, .slice none 0 0, .slice none 0 0] 96))
                    have KY := KY1
                    clear KY1
                    have OZ : Hid (RO w5.heap.size A1 n1 M1 m1 A3 n3 M3 m3) := Lib.hid (RO.new B1.out B3.out)
                    have B11 := Lib.hid (B1.out.below (below_alloc w5 (.cells #[.bool false, .bool false, .int .u64 0, .slice none 0 0, .slice none 0 0] 96)))
                    have B1 := B11
                    have B31 := Lib.hid (B3.out.below (below_alloc w5 (.cells #[.bool false, .bool false, .int .u64 0, .slice none 0 0, .slice none 0 0] 96)))
                    have B3 := B31
                    clear B11 B31
                    refine hK.out _ _ (HS.out _ Lwz.out) (fun hHeld => ?_)
                    clear hK
                    generalize w5.alloc (.cells #[.bool false, .bool false, .int .u64 0, .slice none 0 0, .slice none 0 0] 96) = wz at *
                    generalize hgx : w5.heap.size = gz at *
                    clear hgx
                    try go_frame
                    refine wpAnyH_ready (rs := [18]) (by kernel_rfl) (by simp) ?_
                    refine ready_cons (i := 18) (o := ⟨_, _, _, _, _, _⟩) rfl ?_ AllReadyH.nil
                    intro K hK
                    refine store_step rfl 86 _ _ rfl gy 0 86 (rvals 0 0 false 0 none 0 0 none 0 0) (rvals a0 a1 (!S.full1 d.x) (S.endOf E N) A1 n1 c1 M1 m1 d1) rfl rfl KY.out (Nat.le_refl _) sizeRC (onesRC _ _ _ _ _ _ _ _ _ _) ?_
                    intro w8 k8 f8 z8
                    clear z8
                    have K8 : Hid (w8.heap[gy]? = some (rcobj a0 a1 (!S.full1 d.x) (S.endOf E N) A1 n1 c1 M1 m1 d1)) := Lib.hid k8
                    have L8 : Hid (Below wd.heap.size wd w8) := Lib.hid (Lwz.out.trans (f8.below Lwz.out.size (fun j hj e => by have := GY.out; omega)))
                    have B18 := Lib.hid (B1.out.offs OY.out.a OY.out.m f8)
                    have B38 := Lib.hid (B3.out.offs OY.out.b OY.out.n f8)
                    have KZ8 := Lib.hid (carry f8 KZ.out NE.out)
                    refine hK.out _ _ (HS.out _ L8.out) (fun hHeld => ?_)
                    clear hK k8 f8 B1 B3 KZ
                    try go_frame
                    refine wpAnyH_ready (rs := [19]) (by kernel_rfl) (by simp) ?_
                    refine ready_cons (i := 19) (o := ⟨_, _, _, _, _, _⟩) rfl ?_ AllReadyH.nil
                    intro K hK
                    refine store_step rfl 96 _ _ rfl gz 0 96 (svals false false 0 none 0 0 none 0 0) (svals (!S.opn) (S.full1 d.x) (S.step N d.i d.x).due A3 n3 c3 M3 m3 d3) rfl rfl KZ8.out (Nat.le_refl _) sizeRS (onesS _ _ _ _ _ _ _ _ _) ?_
                    intro w9 k9 f9 z9
                    clear z9
                    have K9 : Hid (w9.heap[gz]? = some (rsobj (!S.opn) (S.full1 d.x) (S.step N d.i d.x).due A3 n3 c3 M3 m3 d3)) := Lib.hid k9
                    have L9 : Hid (Below wd.heap.size wd w9) := Lib.hid (L8.out.trans (f9.below L8.out.size (fun j hj e => by have := GZ.out; omega)))
                    have B19 := Lib.hid (B18.out.offs OZ.out.a OZ.out.m f9)
                    have B39 := Lib.hid (B38.out.offs OZ.out.b OZ.out.n f9)
                    have K89 := Lib.hid (carry f9 K8.out (Ne.symm NE.out))
                    refine hK.out _ _ (HS.out _ L9.out) (fun hHeld => ?_)
                    clear hK k9 f9
                    try go_frame
                    refine wpAnyH_done (by kernel_rfl) ?_ _
                    go_wp2
                    go_meet
                    exact ⟨gy, gz, A1, n1, c1, M1, m1, d1, A3, n3, c3, M3, m3, d3, rfl, rfl, K89.out, K9.out, B19.out, B39.out, OB.out, DW.out.trans (L9.out.mono DW.out.size), Nat.le_trans DW.out.size GY.out, Nat.le_trans DW.out.size GZ.out⟩
                  · intro K hK
                    constructor
                    go_simp
                    have KZ : Hid ((wy.alloc (.cells #[.bool false, .bool false, .int .u64 0, .slice none 0 0, .slice none 0 0] 96)).heap[wy.heap.size]? = some (rsobj false false 0 none 0 0 none 0 0)) := Lib.hid (heap_alloc_at wy _)
                    have Lwz : Hid (Below wd.heap.size wd (wy.alloc (.cells #[.bool false, .bool false, .int .u64 0, .slice none 0 0, .slice none 0 0] 96))) := Lib.hid (Lwy.out.alloc Lwy.out.size _)
                    have GZ : Hid (wd.heap.size ≤ wy.heap.size) := Lib.hid Lwy.out.size
                    have NE : Hid (wy.heap.size ≠ gy) := Lib.hid (by have := heap_lt KY.out; omega)
                    have KY1 := Lib.hid (kb_alloc KY.out (.cells #[.bool false, .bool false, .int .u64 0, .slice none 0 0, .slice none 0 0] 96))
                    have KY := KY1
                    clear KY1
                    refine hK.out _ _ (HS.out _ Lwz.out) (fun hHeld => ?_)
                    clear hK
                    generalize wy.alloc (.cells #[.bool false, .bool false, .int .u64 0, .slice none 0 0, .slice none 0 0] 96) = wz at *
                    generalize hgx : wy.heap.size = gz at *
                    clear hgx
                    try go_frame
                    refine wpAnyH_ready (rs := [12]) (by kernel_rfl) (by simp) ?_
                    refine ready_cons (i := 12) (o := ⟨_, _, _, _, _, _⟩) rfl ?_ AllReadyH.nil
                    intro K hK
                    refine call_step (f := 47) (args := #[rcV a0 a1 S.opn E A k c M m e, .int .u64 N, .int .i64 d.i, .int .i64 d.x]) rfl (by kernel_rfl) ?_
                    refine (H12.out wz Lwz.out).mono ?_
                    rintro r w5 ⟨A1, n1, c1, M1, m1, d1, A3, n3, c3, M3, m3, d3, rfl, h1, h3, ho, l5⟩
                    refine ⟨_, rfl, ?_⟩
                    have B1 := Lib.hid h1
                    have B3 := Lib.hid h3
                    have Lw5 := Lib.hid (Lwz.out.trans (l5.mono Lwz.out.size))
                    have OB : Hid ((Off (fun j => j = b ∨ j = gx) A1 n1 ∧ Off (fun j => j = b ∨ j = gx) M1 m1) ∧ (Off (fun j => j = b ∨ j = gx) A3 n3 ∧ Off (fun j => j = b ∨ j = gx) M3 m3)) := Lib.hid ⟨⟨ho.1.1.mono (fun j e => .inl e), ho.1.2.mono (fun j e => .inl e)⟩, ⟨ho.2.1.mono (fun j e => .inl e), ho.2.2.mono (fun j e => .inl e)⟩⟩
                    have OY : Hid (RO gy A1 n1 M1 m1 A3 n3 M3 m3) := Lib.hid (RO.of ho (.inr ⟨GY.out, heap_lt KY.out⟩))
                    have KY1 := Lib.hid (kb_below KY.out l5)
                    have KY := KY1
                    clear KY1
                    have OZ : Hid (RO gz A1 n1 M1 m1 A3 n3 M3 m3) := Lib.hid (RO.of ho (.inr ⟨GZ.out, heap_lt KZ.out⟩))
                    have KZ1 := Lib.hid (kb_below KZ.out l5)
                    have KZ := KZ1
                    clear KZ1
                    refine hK.out _ _ (HS.out _ Lw5.out) (fun hHeld => ?_)
                    clear hK h1 h3 ho l5
                    try go_frame
                    refine wpAnyH_take (i := 13) (oi := ⟨_, _, _, _, _, _⟩) (v := ?_) rfl (by kernel_rfl) (by kernel_rfl) (by kernel_rfl) (fun _ _ _ h => h) (Or.inl ⟨by rfl, ?_⟩) (by assumption) ?_
                    rotate_left
                    · intro w hSw; (try dsimp only at hSw); go_simp; try (with_reducible rfl)
                    try go_frame
                    refine wpAnyH_take (i := 14) (oi := ⟨_, _, _, _, _, _⟩) (v := ?_) rfl (by kernel_rfl) (by kernel_rfl) (by kernel_rfl) (fun _ _ _ h => h) (Or.inl ⟨by rfl, ?_⟩) (by assumption) ?_
                    rotate_left
                    · intro w hSw; (try dsimp only at hSw); go_simp; try (with_reducible rfl)
                    try go_frame
                    refine wpAnyH_take (i := 15) (oi := ⟨_, _, _, _, _, _⟩) (v := ?_) rfl (by kernel_rfl) (by kernel_rfl) (by kernel_rfl) (fun _ _ _ h => h) (Or.inl ⟨by rfl, ?_⟩) (by assumption) ?_
                    rotate_left
                    · intro w hSw; (try dsimp only at hSw); go_simp; try (with_reducible rfl)
                    try go_frame
                    refine wpAnyH_ready (rs := [18]) (by kernel_rfl) (by simp) ?_
                    refine ready_cons (i := 18) (o := ⟨_, _, _, _, _, _⟩) rfl ?_ AllReadyH.nil
                    intro K hK
                    refine store_step rfl 86 _ _ rfl gy 0 86 (rvals 0 0 false 0 none 0 0 none 0 0) (rvals a0 a1 (!S.full1 d.x) (S.endOf E N) A1 n1 c1 M1 m1 d1) rfl rfl KY.out (Nat.le_refl _) sizeRC (onesRC _ _ _ _ _ _ _ _ _ _) ?_
                    intro w8 k8 f8 z8
                    clear z8
                    have K8 : Hid (w8.heap[gy]? = some (rcobj a0 a1 (!S.full1 d.x) (S.endOf E N) A1 n1 c1 M1 m1 d1)) := Lib.hid k8
                    have L8 : Hid (Below wd.heap.size wd w8) := Lib.hid (Lw5.out.trans (f8.below Lw5.out.size (fun j hj e => by have := GY.out; omega)))
                    have B18 := Lib.hid (B1.out.offs OY.out.a OY.out.m f8)
                    have B38 := Lib.hid (B3.out.offs OY.out.b OY.out.n f8)
                    have KZ8 := Lib.hid (carry f8 KZ.out NE.out)
                    refine hK.out _ _ (HS.out _ L8.out) (fun hHeld => ?_)
                    clear hK k8 f8 B1 B3 KZ
                    try go_frame
                    refine wpAnyH_ready (rs := [19]) (by kernel_rfl) (by simp) ?_
                    refine ready_cons (i := 19) (o := ⟨_, _, _, _, _, _⟩) rfl ?_ AllReadyH.nil
                    intro K hK
                    refine store_step rfl 96 _ _ rfl gz 0 96 (svals false false 0 none 0 0 none 0 0) (svals (!S.opn) (S.full1 d.x) (S.step N d.i d.x).due A3 n3 c3 M3 m3 d3) rfl rfl KZ8.out (Nat.le_refl _) sizeRS (onesS _ _ _ _ _ _ _ _ _) ?_
                    intro w9 k9 f9 z9
                    clear z9
                    have K9 : Hid (w9.heap[gz]? = some (rsobj (!S.opn) (S.full1 d.x) (S.step N d.i d.x).due A3 n3 c3 M3 m3 d3)) := Lib.hid k9
                    have L9 : Hid (Below wd.heap.size wd w9) := Lib.hid (L8.out.trans (f9.below L8.out.size (fun j hj e => by have := GZ.out; omega)))
                    have B19 := Lib.hid (B18.out.offs OZ.out.a OZ.out.m f9)
                    have B39 := Lib.hid (B38.out.offs OZ.out.b OZ.out.n f9)
                    have K89 := Lib.hid (carry f9 K8.out (Ne.symm NE.out))
                    refine hK.out _ _ (HS.out _ L9.out) (fun hHeld => ?_)
                    clear hK k9 f9
                    try go_frame
                    refine wpAnyH_done (by kernel_rfl) ?_ _
                    go_wp2
                    go_meet
                    exact ⟨gy, gz, A1, n1, c1, M1, m1, d1, A3, n3, c3, M3, m3, d3, rfl, rfl, K89.out, K9.out, B19.out, B39.out, OB.out, DW.out.trans (L9.out.mono DW.out.size), Nat.le_trans DW.out.size GY.out, Nat.le_trans DW.out.size GZ.out⟩
                · intro K hK
                  constructor
                  go_simp
                  have KZ : Hid ((wd.alloc (.cells #[.bool false, .bool false, .int .u64 0, .slice none 0 0, .slice none 0 0] 96)).heap[wd.heap.size]? = some (rsobj false false 0 none 0 0 none 0 0)) := Lib.hid (heap_alloc_at wd _)
                  have Lwz : Hid (Below wd.heap.size wd (wd.alloc (.cells #[.bool false, .bool false, .int .u64 0, .slice none 0 0, .slice none 0 0] 96))) := Lib.hid (Lwd.out.alloc Lwd.out.size _)
                  have GZ : Hid (wd.heap.size ≤ wd.heap.size) := Lib.hid Lwd.out.size
                  refine hK.out _ _ (HS.out _ Lwz.out) (fun hHeld => ?_)
                  clear hK
                  generalize wd.alloc (.cells #[.bool false, .bool false, .int .u64 0, .slice none 0 0, .slice none 0 0] 96) = wz at *
                  obtain ⟨gz, hg⟩ : ∃ gz, wd.heap.size = gz := ⟨_, rfl⟩
                  rw [hg] at KZ
                  clear GZ
                  have GZ : Hid (wd.heap.size ≤ gz) := Lib.hid (Nat.le_of_eq hg)
                  try rw [hg]
                  clear hg
                  try go_frame
                  refine wpAnyH_ready (rs := [12, 16]) (by kernel_rfl) (by simp) ?_
                  refine ready_cons (i := 12) (o := ⟨_, _, _, _, _, _⟩) rfl ?_ (ready_cons (i := 16) (o := ⟨_, _, _, _, _, _⟩) rfl ?_ AllReadyH.nil)
                  · intro K hK
                    refine call_step (f := 47) (args := #[rcV a0 a1 S.opn E A k c M m e, .int .u64 N, .int .i64 d.i, .int .i64 d.x]) rfl (by kernel_rfl) ?_
                    refine (H12.out wz Lwz.out).mono ?_
                    rintro r w5 ⟨A1, n1, c1, M1, m1, d1, A3, n3, c3, M3, m3, d3, rfl, h1, h3, ho, l5⟩
                    refine ⟨_, rfl, ?_⟩
                    have B1 := Lib.hid h1
                    have B3 := Lib.hid h3
                    have Lw5 := Lib.hid (Lwz.out.trans (l5.mono Lwz.out.size))
                    have OB : Hid ((Off (fun j => j = b ∨ j = gx) A1 n1 ∧ Off (fun j => j = b ∨ j = gx) M1 m1) ∧ (Off (fun j => j = b ∨ j = gx) A3 n3 ∧ Off (fun j => j = b ∨ j = gx) M3 m3)) := Lib.hid ⟨⟨ho.1.1.mono (fun j e => .inl e), ho.1.2.mono (fun j e => .inl e)⟩, ⟨ho.2.1.mono (fun j e => .inl e), ho.2.2.mono (fun j e => .inl e)⟩⟩
                    have OZ : Hid (RO gz A1 n1 M1 m1 A3 n3 M3 m3) := Lib.hid (RO.of ho (.inr ⟨GZ.out, heap_lt KZ.out⟩))
                    have KZ1 := Lib.hid (kb_below KZ.out l5)
                    have KZ := KZ1
                    clear KZ1
                    refine hK.out _ _ (HS.out _ Lw5.out) (fun hHeld => ?_)
                    clear hK h1 h3 ho l5
                    try go_frame
                    refine wpAnyH_take (i := 13) (oi := ⟨_, _, _, _, _, _⟩) (v := ?_) rfl (by kernel_rfl) (by kernel_rfl) (by kernel_rfl) (fun _ _ _ h => h) (Or.inl ⟨by rfl, ?_⟩) (by assumption) ?_
                    rotate_left
                    · intro w hSw; (try dsimp only at hSw); go_simp; try (with_reducible rfl)
                    try go_frame
                    refine wpAnyH_take (i := 14) (oi := ⟨_, _, _, _, _, _⟩) (v := ?_) rfl (by kernel_rfl) (by kernel_rfl) (by kernel_rfl) (fun _ _ _ h => h) (Or.inl ⟨by rfl, ?_⟩) (by assumption) ?_
                    rotate_left
                    · intro w hSw; (try dsimp only at hSw); go_simp; try (with_reducible rfl)
                    try go_frame
                    refine wpAnyH_take (i := 15) (oi := ⟨_, _, _, _, _, _⟩) (v := ?_) rfl (by kernel_rfl) (by kernel_rfl) (by kernel_rfl) (fun _ _ _ h => h) (Or.inl ⟨by rfl, ?_⟩) (by assumption) ?_
                    rotate_left
                    · intro w hSw; (try dsimp only at hSw); go_simp; try (with_reducible rfl)
                    try go_frame
                    refine wpAnyH_ready (rs := [16]) (by kernel_rfl) (by simp) ?_
                    refine ready_cons (i := 16) (o := ⟨_, _, _, _, _, _⟩) rfl ?_ AllReadyH.nil
                    intro K hK
                    constructor
                    go_simp
                    have KY : Hid ((w5.alloc (.cells #[.int .u64 0, .int .i64 0, .bool false, .int .u64 0, .slice none 0 0, .slice none 0 0] 86)).heap[w5.heap.size]? = some (rcobj 0 0 false 0 none 0 0 none 0 0)) := Lib.hid (heap_alloc_at w5 _)
                    have Lwy : Hid (Below wd.heap.size wd (w5.alloc (.cells #[.int .u64 0, .int .i64 0, .bool false, .int .u64 0, .slice none 0 0, .slice none 0 0] 86))) := Lib.hid (Lw5.out.alloc Lw5.out.size _)
                    have GY : Hid (wd.heap.size ≤ w5.heap.size) := Lib.hid Lw5.out.size
                    have NE : Hid (gz ≠ w5.heap.size) := Lib.hid (by have := heap_lt KZ.out; omega)
                    have KZ1 := Lib.hid (kb_alloc KZ.out (.cells #[.int .u64 0, .int .i64 0, .bool false, .int .u64 0, .slice none 0 0, .slice none 0 0] 86))
                    have KZ := KZ1
                    clear KZ1
                    have OY : Hid (RO w5.heap.size A1 n1 M1 m1 A3 n3 M3 m3) := Lib.hid (RO.new B1.out B3.out)
                    have B11 := Lib.hid (B1.out.below (below_alloc w5 (.cells #[.int .u64 0, .int .i64 0, .bool false, .int .u64 0, .slice none 0 0, .slice none 0 0] 86)))
                    have B1 := B11
                    have B31 := Lib.hid (B3.out.below (below_alloc w5 (.cells #[.int .u64 0, .int .i64 0, .bool false, .int .u64 0, .slice none 0 0, .slice none 0 0] 86)))
                    have B3 := B31
                    clear B11 B31
                    refine hK.out _ _ (HS.out _ Lwy.out) (fun hHeld => ?_)
                    clear hK
                    generalize w5.alloc (.cells #[.int .u64 0, .int .i64 0, .bool false, .int .u64 0, .slice none 0 0, .slice none 0 0] 86) = wy at *
                    generalize hgx : w5.heap.size = gy at *
                    clear hgx
                    try go_frame
                    refine wpAnyH_ready (rs := [18]) (by kernel_rfl) (by simp) ?_
                    refine ready_cons (i := 18) (o := ⟨_, _, _, _, _, _⟩) rfl ?_ AllReadyH.nil
                    intro K hK
                    refine store_step rfl 86 _ _ rfl gy 0 86 (rvals 0 0 false 0 none 0 0 none 0 0) (rvals a0 a1 (!S.full1 d.x) (S.endOf E N) A1 n1 c1 M1 m1 d1) rfl rfl KY.out (Nat.le_refl _) sizeRC (onesRC _ _ _ _ _ _ _ _ _ _) ?_
                    intro w8 k8 f8 z8
                    clear z8
                    have K8 : Hid (w8.heap[gy]? = some (rcobj a0 a1 (!S.full1 d.x) (S.endOf E N) A1 n1 c1 M1 m1 d1)) := Lib.hid k8
                    have L8 : Hid (Below wd.heap.size wd w8) := Lib.hid (Lwy.out.trans (f8.below Lwy.out.size (fun j hj e => by have := GY.out; omega)))
                    have B18 := Lib.hid (B1.out.offs OY.out.a OY.out.m f8)
                    have B38 := Lib.hid (B3.out.offs OY.out.b OY.out.n f8)
                    have KZ8 := Lib.hid (carry f8 KZ.out NE.out)
                    refine hK.out _ _ (HS.out _ L8.out) (fun hHeld => ?_)
                    clear hK k8 f8 B1 B3 KZ
                    try go_frame
                    refine wpAnyH_ready (rs := [19]) (by kernel_rfl) (by simp) ?_
                    refine ready_cons (i := 19) (o := ⟨_, _, _, _, _, _⟩) rfl ?_ AllReadyH.nil
                    intro K hK
                    refine store_step rfl 96 _ _ rfl gz 0 96 (svals false false 0 none 0 0 none 0 0) (svals (!S.opn) (S.full1 d.x) (S.step N d.i d.x).due A3 n3 c3 M3 m3 d3) rfl rfl KZ8.out (Nat.le_refl _) sizeRS (onesS _ _ _ _ _ _ _ _ _) ?_
                    intro w9 k9 f9 z9
                    clear z9
                    have K9 : Hid (w9.heap[gz]? = some (rsobj (!S.opn) (S.full1 d.x) (S.step N d.i d.x).due A3 n3 c3 M3 m3 d3)) := Lib.hid k9
                    have L9 : Hid (Below wd.heap.size wd w9) := Lib.hid (L8.out.trans (f9.below L8.out.size (fun j hj e => by have := GZ.out; omega)))
                    have B19 := Lib.hid (B18.out.offs OZ.out.a OZ.out.m f9)
                    have B39 := Lib.hid (B38.out.offs OZ.out.b OZ.out.n f9)
                    have K89 := Lib.hid (carry f9 K8.out (Ne.symm NE.out))
                    refine hK.out _ _ (HS.out _ L9.out) (fun hHeld => ?_)
                    clear hK k9 f9
                    try go_frame
                    refine wpAnyH_done (by kernel_rfl) ?_ _
                    go_wp2
                    go_meet
                    exact ⟨gy, gz, A1, n1, c1, M1, m1, d1, A3, n3, c3, M3, m3, d3, rfl, rfl, K89.out, K9.out, B19.out, B39.out, OB.out, DW.out.trans (L9.out.mono DW.out.size), Nat.le_trans DW.out.size GY.out, Nat.le_trans DW.out.size GZ.out⟩
                  · intro K hK
                    constructor
                    go_simp
                    have KY : Hid ((wz.alloc (.cells #[.int .u64 0, .int .i64 0, .bool false, .int .u64 0, .slice none 0 0, .slice none 0 0] 86)).heap[wz.heap.size]? = some (rcobj 0 0 false 0 none 0 0 none 0 0)) := Lib.hid (heap_alloc_at wz _)
                    have Lwy : Hid (Below wd.heap.size wd (wz.alloc (.cells #[.int .u64 0, .int .i64 0, .bool false, .int .u64 0, .slice none 0 0, .slice none 0 0] 86))) := Lib.hid (Lwz.out.alloc Lwz.out.size _)
                    have GY : Hid (wd.heap.size ≤ wz.heap.size) := Lib.hid Lwz.out.size
                    have NE : Hid (gz ≠ wz.heap.size) := Lib.hid (by have := heap_lt KZ.out; omega)
                    have KZ1 := Lib.hid (kb_alloc KZ.out (.cells #[.int .u64 0, .int .i64 0, .bool false, .int .u64 0, .slice none 0 0, .slice none 0 0] 86))
                    have KZ := KZ1
                    clear KZ1
                    refine hK.out _ _ (HS.out _ Lwy.out) (fun hHeld => ?_)
                    clear hK
                    generalize wz.alloc (.cells #[.int .u64 0, .int .i64 0, .bool false, .int .u64 0, .slice none 0 0, .slice none 0 0] 86) = wy at *
                    generalize hgx : wz.heap.size = gy at *
                    clear hgx
                    try go_frame
                    refine wpAnyH_ready (rs := [12]) (by kernel_rfl) (by simp) ?_
                    refine ready_cons (i := 12) (o := ⟨_, _, _, _, _, _⟩) rfl ?_ AllReadyH.nil
                    intro K hK
                    refine call_step (f := 47) (args := #[rcV a0 a1 S.opn E A k c M m e, .int .u64 N, .int .i64 d.i, .int .i64 d.x]) rfl (by kernel_rfl) ?_
                    refine (H12.out wy Lwy.out).mono ?_
                    rintro r w5 ⟨A1, n1, c1, M1, m1, d1, A3, n3, c3, M3, m3, d3, rfl, h1, h3, ho, l5⟩
                    refine ⟨_, rfl, ?_⟩
                    have B1 := Lib.hid h1
                    have B3 := Lib.hid h3
                    have Lw5 := Lib.hid (Lwy.out.trans (l5.mono Lwy.out.size))
                    have OB : Hid ((Off (fun j => j = b ∨ j = gx) A1 n1 ∧ Off (fun j => j = b ∨ j = gx) M1 m1) ∧ (Off (fun j => j = b ∨ j = gx) A3 n3 ∧ Off (fun j => j = b ∨ j = gx) M3 m3)) := Lib.hid ⟨⟨ho.1.1.mono (fun j e => .inl e), ho.1.2.mono (fun j e => .inl e)⟩, ⟨ho.2.1.mono (fun j e => .inl e), ho.2.2.mono (fun j e => .inl e)⟩⟩
                    have OY : Hid (RO gy A1 n1 M1 m1 A3 n3 M3 m3) := Lib.hid (RO.of ho (.inr ⟨GY.out, heap_lt KY.out⟩))
                    have KY1 := Lib.hid (kb_below KY.out l5)
                    have KY := KY1
                    clear KY1
                    have OZ : Hid (RO gz A1 n1 M1 m1 A3 n3 M3 m3) := Lib.hid (RO.of ho (.inr ⟨GZ.out, heap_lt KZ.out⟩))
                    have KZ1 := Lib.hid (kb_below KZ.out l5)
                    have KZ := KZ1
                    clear KZ1
                    refine hK.out _ _ (HS.out _ Lw5.out) (fun hHeld => ?_)
                    clear hK h1 h3 ho l5
                    try go_frame
                    refine wpAnyH_take (i := 13) (oi := ⟨_, _, _, _, _, _⟩) (v := ?_) rfl (by kernel_rfl) (by kernel_rfl) (by kernel_rfl) (fun _ _ _ h => h) (Or.inl ⟨by rfl, ?_⟩) (by assumption) ?_
                    rotate_left
                    · intro w hSw; (try dsimp only at hSw); go_simp; try (with_reducible rfl)
                    try go_frame
                    refine wpAnyH_take (i := 14) (oi := ⟨_, _, _, _, _, _⟩) (v := ?_) rfl (by kernel_rfl) (by kernel_rfl) (by kernel_rfl) (fun _ _ _ h => h) (Or.inl ⟨by rfl, ?_⟩) (by assumption) ?_
                    rotate_left
                    · intro w hSw; (try dsimp only at hSw); go_simp; try (with_reducible rfl)
                    try go_frame
                    refine wpAnyH_take (i := 15) (oi := ⟨_, _, _, _, _, _⟩) (v := ?_) rfl (by kernel_rfl) (by kernel_rfl) (by kernel_rfl) (fun _ _ _ h => h) (Or.inl ⟨by rfl, ?_⟩) (by assumption) ?_
                    rotate_left
                    · intro w hSw; (try dsimp only at hSw); go_simp; try (with_reducible rfl)
                    try go_frame
                    refine wpAnyH_ready (rs := [18]) (by kernel_rfl) (by simp) ?_
                    refine ready_cons (i := 18) (o := ⟨_, _, _, _, _, _⟩) rfl ?_ AllReadyH.nil
                    intro K hK
                    refine store_step rfl 86 _ _ rfl gy 0 86 (rvals 0 0 false 0 none 0 0 none 0 0) (rvals a0 a1 (!S.full1 d.x) (S.endOf E N) A1 n1 c1 M1 m1 d1) rfl rfl KY.out (Nat.le_refl _) sizeRC (onesRC _ _ _ _ _ _ _ _ _ _) ?_
                    intro w8 k8 f8 z8
                    clear z8
                    have K8 : Hid (w8.heap[gy]? = some (rcobj a0 a1 (!S.full1 d.x) (S.endOf E N) A1 n1 c1 M1 m1 d1)) := Lib.hid k8
                    have L8 : Hid (Below wd.heap.size wd w8) := Lib.hid (Lw5.out.trans (f8.below Lw5.out.size (fun j hj e => by have := GY.out; omega)))
                    have B18 := Lib.hid (B1.out.offs OY.out.a OY.out.m f8)
                    have B38 := Lib.hid (B3.out.offs OY.out.b OY.out.n f8)
                    have KZ8 := Lib.hid (carry f8 KZ.out NE.out)
                    refine hK.out _ _ (HS.out _ L8.out) (fun hHeld => ?_)
                    clear hK k8 f8 B1 B3 KZ
                    try go_frame
                    refine wpAnyH_ready (rs := [19]) (by kernel_rfl) (by simp) ?_
                    refine ready_cons (i := 19) (o := ⟨_, _, _, _, _, _⟩) rfl ?_ AllReadyH.nil
                    intro K hK
                    refine store_step rfl 96 _ _ rfl gz 0 96 (svals false false 0 none 0 0 none 0 0) (svals (!S.opn) (S.full1 d.x) (S.step N d.i d.x).due A3 n3 c3 M3 m3 d3) rfl rfl KZ8.out (Nat.le_refl _) sizeRS (onesS _ _ _ _ _ _ _ _ _) ?_
                    intro w9 k9 f9 z9
                    clear z9
                    have K9 : Hid (w9.heap[gz]? = some (rsobj (!S.opn) (S.full1 d.x) (S.step N d.i d.x).due A3 n3 c3 M3 m3 d3)) := Lib.hid k9
                    have L9 : Hid (Below wd.heap.size wd w9) := Lib.hid (L8.out.trans (f9.below L8.out.size (fun j hj e => by have := GZ.out; omega)))
                    have B19 := Lib.hid (B18.out.offs OZ.out.a OZ.out.m f9)
                    have B39 := Lib.hid (B38.out.offs OZ.out.b OZ.out.n f9)
                    have K89 := Lib.hid (carry f9 K8.out (Ne.symm NE.out))
                    refine hK.out _ _ (HS.out _ L9.out) (fun hHeld => ?_)
                    clear hK k9 f9
                    try go_frame
                    refine wpAnyH_done (by kernel_rfl) ?_ _
                    go_wp2
                    go_meet
                    exact ⟨gy, gz, A1, n1, c1, M1, m1, d1, A3, n3, c3, M3, m3, d3, rfl, rfl, K89.out, K9.out, B19.out, B39.out, OB.out, DW.out.trans (L9.out.mono DW.out.size), Nat.le_trans DW.out.size GY.out, Nat.le_trans DW.out.size GZ.out⟩

              case rest =>
                obtain ⟨gy, gz, A1, n1, c1, M1, m1, d1, A3, n3, c3, M3, m3, d3, rfl, rfl, ky, kz, b1, b3, ho', hl, hgy, hgz⟩ := hcut
                have KY := Lib.hid ky
                have KZ : Hid (wc.heap[gz]? = some (rsobj o y u A3 n3 c3 M3 m3 d3)) := Lib.hid (by rw [← ho, ← hy, ← hu]; exact kz)
                have B1 := Lib.hid b1
                have B3_ := Lib.hid b3
                have OB := Lib.hid ho'
                have L_ := Lib.hid (L.out.trans (hl.mono L.out.size))
                have KX_ := Lib.hid (kb_below KX.out hl)
                have KT_ := Lib.hid (kb_below KT.out hl)
                have B5_ := Lib.hid (B5.out.below hl)
                have CN_ := Lib.hid (CN.out.below hl)
                have NYX : Hid (gy ≠ gx ∧ gz ≠ gx) := Lib.hid (by have := heap_lt KX.out; omega)
                clear ky kz b1 b3 ho' hl hgy hgz L KX KT B5 CN BX HS2
                obtain ⟨fs, hfs⟩ := undRC
                have HU := Lib.hid hfs
                clear hfs
                go_upto_region 17 with (first
                  | (refine wpList_load_agg rfl 86 _ rfl gy rfl (rvals a0 a1 (!S.full1 d.x) (S.endOf E N) A1 n1 c1 M1 m1 d1) ?hz _ HU.out rfl sizeRC ?_; (case hz => exact KY.out))
                  | (refine wpList_store_agg rfl 86 _ _ rfl gx (rvals a0 a1 S.opn E A k c M m e) (rvals a0 a1 (!S.full1 d.x) (S.endOf E N) A1 n1 c1 M1 m1 d1) rfl rfl ?hz rfl sizeRC (onesRC _ _ _ _ _ _ _ _ _ _) ?_; (case hz => exact KX_.out); intro w9 k9 f9 z9; clear z9; have K9 := Lib.hid k9; have F9 := Lib.hid f9; clear k9 f9))
                have KT := Lib.hid (carry F9.out KT_.out NGX.out)
                have KZ9 := Lib.hid (carry F9.out KZ.out NYX.out.2)
                have B5 := Lib.hid (B5_.out.offs (O5.out.2.1.off (fun j e => by have := O5.out.1; omega) _) (O5.out.2.2.off (fun j e => by have := O5.out.1; omega) _) F9.out)
                have B3 := Lib.hid (B3_.out.offs (OB.out.2.1.mono (fun j e => .inr e)) (OB.out.2.2.mono (fun j e => .inr e)) F9.out)
                have L9 : Hid (Below w.heap.size w w9) := Lib.hid (L_.out.trans (F9.out.below L_.out.size (fun j hj e => by have := GW.out; have := GX.out; omega)))
                have hP : CP w w9 b gx a0 a1 (S.next N d.i d.x) (i + 1) (S.endOf E N) A1 n1 c1 M1 m1 d1 := by
                  have h1 := next_len S N d.i d.x
                  have h2 := next_same S N d.i d.x
                  refine ⟨h2.1.trans P.out.win, h2.2.trans P.out.most, by have := P.out.zl; omega, by have := P.out.ml; omega, ?_, ?_, ?_, OB.out.1, next_due S N d.i d.x E P.out.due, L9.out⟩
                  · exact (CN_.out.mono (by have := O5.out.1; omega)).off F9.out (by have := GX.out; omega) (by omega)
                  · rw [next_opn]; exact K9.out
                  · exact B1.out.offs (OB.out.1.1.mono (fun j e => .inr e)) (OB.out.1.2.mono (fun j e => .inr e)) F9.out
                have HP := Lib.hid hP
                have hm5 : m5 ≤ 1000 := by have h1 := B5.out.mlen; have h2 := step_len S N d.i d.x; have := P.out.ml; have := I100.out; omega
                have HS : Hid (∀ wx, Below w9.heap.size w9 wx → (wx.cell? ⟨g, 0, none⟩ = some (.bool o) ∧ wx.cell? ⟨g, 1, none⟩ = some (.bool y) ∧ wx.cell? ⟨g, 2, none⟩ = some (.int .u64 u) ∧ wx.cell? ⟨g, 3, none⟩ = some (.slice A5 n5 c5) ∧ wx.cell? ⟨g, 4, none⟩ = some (.slice M5 m5 d5)) ∧ (wx.cell? ⟨gz, 0, none⟩ = some (.bool o) ∧ wx.cell? ⟨gz, 1, none⟩ = some (.bool y) ∧ wx.cell? ⟨gz, 2, none⟩ = some (.int .u64 u) ∧ wx.cell? ⟨gz, 3, none⟩ = some (.slice A3 n3 c3) ∧ wx.cell? ⟨gz, 4, none⟩ = some (.slice M3 m3 d3))) := Lib.hid (fun wx hb => by
                  have k1 := kb_below KT.out hb
                  have k2 := kb_below KZ9.out hb
                  exact ⟨⟨vobj_cell k1 rfl, vobj_cell k1 rfl, vobj_cell k1 rfl, vobj_cell k1 rfl, vobj_cell k1 rfl⟩, ⟨vobj_cell k2 rfl, vobj_cell k2 rfl, vobj_cell k2 rfl, vobj_cell k2 rfl, vobj_cell k2 rfl⟩⟩)
                have S1 : Hid (∀ wx, Below w9.heap.size w9 wx → Calls Try.prog 48 #[batV A5 n5 c5 M5 m5 d5] wx fun r w' => ∃ M' d', r = .returned (batV A5 n5 c5 M' m5 d') ∧ Bat w' A5 n5 c5 M' m5 d' (S.step N d.i d.x).zs (S.step N d.i d.x).ms ∧ Below wx.heap.size wx w') := Lib.hid (fun wx hb => real14_any A5 n5 c5 M5 m5 d5 _ _ wx (B5.out.below hb) hm5)
                have S2 : Hid (∀ M' d' wx, Bat wx A5 n5 c5 M' m5 d' (S.step N d.i d.x).zs (S.step N d.i d.x).ms → Below w9.heap.size w9 wx → Calls Try.prog 36 #[batV A5 n5 c5 M' m5 d', batV A3 n3 c3 M3 m3 d3] wx fun r w' => r = .returned (.bool true) ∧ Below wx.heap.size wx w') := Lib.hid (fun M' d' wx h hb => by
                  have h' := B3.out.below hb
                  obtain rfl : n3 = n5 := h'.alen.symm.trans h.alen
                  obtain rfl : m3 = m5 := h'.mlen.symm.trans h.mlen
                  exact rsame_any A5 n3 c5 M' m3 d' A3 c3 M3 d3 _ _ wx h h')
                have D0 : Hid (Below w9.heap.size w9 w9.drew) := Lib.hid (ali_below (drew_ali _))
                clear hP hm5 ho hy hu P KT KZ KZ9 B5 B3 L9 K9 F9 KY B1 B3_ OB L_ KX_ KT_ B5_ CN_ O5 NGX NYX HU HSW DF
                go_region_held3 (fun wx => (wx.cell? ⟨g, 0, none⟩ = some (.bool o) ∧ wx.cell? ⟨g, 1, none⟩ = some (.bool y) ∧ wx.cell? ⟨g, 2, none⟩ = some (.int .u64 u) ∧ wx.cell? ⟨g, 3, none⟩ = some (.slice A5 n5 c5) ∧ wx.cell? ⟨g, 4, none⟩ = some (.slice M5 m5 d5)) ∧ (wx.cell? ⟨gz, 0, none⟩ = some (.bool o) ∧ wx.cell? ⟨gz, 1, none⟩ = some (.bool y) ∧ wx.cell? ⟨gz, 2, none⟩ = some (.int .u64 u) ∧ wx.cell? ⟨gz, 3, none⟩ = some (.slice A3 n3 c3) ∧ wx.cell? ⟨gz, 4, none⟩ = some (.slice M3 m3 d3)))
                  (first
                    | with_reducible exact HS.out _ D0.out
                    | with_reducible exact HS.out _ t1
                    | with_reducible exact HS.out _ t2)
                  (first
                    | (go_at_call 36; refine (S2.out M7 d7 _ r1 t1).mono ?_; rintro r z2 ⟨rfl, y2⟩; have t2 := t1.trans (y2.mono t1.size))
                    | (go_at_call 48; refine (S1.out _ D0.out).mono ?_; rintro r z1 ⟨M7, d7, rfl, r1, y1⟩; have t1 := D0.out.trans (y1.mono D0.out.size)))
                have T2 := Lib.hid t2
                clear t1 t2 y1 y2 r1
                go_wp2
                go_meet
                exact ⟨_, _, _, _, _, _, _, _, HP.out.below T2.out⟩
          · have e1 : (d.k == 1) = false := by simp [hk1]
            have HK1 := Lib.hid hk1
            clear hk1
            go_wp2_with fail
            clear e1
            refine (expire_colF b S 0 N wr P.out.col).mono ?_
            rintro r v1 ⟨A5, n5, c5, M5, m5, d5, rfl, hc, hb5, ⟨hfA, hfM⟩, hf⟩
            obtain ⟨x, hx⟩ : ∃ x, S.exp N = x := ⟨_, rfl⟩
            rw [hx]
            rw [hx] at hb5
            have K16 : Hid ((v1.alloc (.cells #[.slice A5 n5 c5, .slice M5 m5 d5] 34)).heap[v1.heap.size]? = some (bobj 34 A5 n5 c5 M5 m5 d5)) := Lib.hid (heap_alloc_at v1 _)
            have ba : Below v1.heap.size v1 (v1.alloc (.cells #[.slice A5 n5 c5, .slice M5 m5 d5] 34)) := below_alloc v1 _
            have ff : Frm (· = b) wr (v1.alloc (.cells #[.slice A5 n5 c5, .slice M5 m5 d5] 34)) := hf.then_below ba
            have B5 := Lib.hid (hb5.below ba)
            have CN := Lib.hid (hc.below ba)
            have F5 : Hid (Fresh (gx + 1) A5 ∧ Fresh (gx + 1) M5) := Lib.hid ⟨hfA, hfM⟩
            have L := Lib.hid (P.out.low.trans (ff.below P.out.low.size (fun j hj e => by have := GW.out; omega)))
            have KX := Lib.hid (carry ff P.out.blk (by have := GX.out; omega))
            have BX := Lib.hid (P.out.bat.offs P.out.offs.1 P.out.offs.2 (ff.mono (fun j _ e => Or.inl e)))
            have N16 : Hid (v1.heap.size ≠ gx) := Lib.hid (by have := heap_lt P.out.blk; have := hf.size; omega)
            clear hc hb5 hfA hfM hf ba ff
            go_upto_region 20 with fail
            generalize v1.alloc (.cells #[.slice A5 n5 c5, .slice M5 m5 d5] 34) = v2 at *
            generalize v1.heap.size = g16 at *
            have x0 : v2.cell? ⟨gx, 0, none⟩ = some (.int .u64 a0) := vobj_cell KX.out rfl
            have x1 : v2.cell? ⟨gx, 1, none⟩ = some (.int .i64 a1) := vobj_cell KX.out rfl
            have x2 : v2.cell? ⟨gx, 2, none⟩ = some (.bool S.opn) := vobj_cell KX.out rfl
            have x3 : v2.cell? ⟨gx, 3, none⟩ = some (.int .u64 E) := vobj_cell KX.out rfl
            have x4 : v2.cell? ⟨gx, 4, none⟩ = some (.slice A k c) := vobj_cell KX.out rfl
            have x5 : v2.cell? ⟨gx, 5, none⟩ = some (.slice M m e) := vobj_cell KX.out rfl
            have HX := Lib.hid hx
            clear hx
            go_wp2_with fail
            clear x0 x1 x2 x3 x4 x5
            refine (rexp_S (fun j => j = b ∨ j = gx) S a0 a1 E A k c M m e N v2 BX.out P.out.offs.1 P.out.offs.2 P.out.due).mono ?_
            rw [HX.out]
            rintro r v3 ⟨A1, n1, c1, M1, m1, d1, A3, n3, c3, M3, m3, d3, rfl, b1, b3, hoff, hdue, l3⟩
            obtain ⟨oo, hoo⟩ : ∃ oo, (S.wait N).opn = oo := ⟨_, rfl⟩
            rw [hoo]
            have HOO := Lib.hid hoo
            have bb : Below v3.heap.size v3 ((v3.alloc (.cells #[.int .u64 0, .int .i64 0, .bool false, .int .u64 0, .slice none 0 0, .slice none 0 0] 86)).alloc (.cells #[.slice none 0 0, .slice none 0 0] 25)) := (below_alloc v3 _).trans ((below_alloc _ _).mono (by simp))
            have K18 : Hid (((v3.alloc (.cells #[.int .u64 0, .int .i64 0, .bool false, .int .u64 0, .slice none 0 0, .slice none 0 0] 86)).alloc (.cells #[.slice none 0 0, .slice none 0 0] 25)).heap[v3.heap.size]? = some (rcobj 0 0 false 0 none 0 0 none 0 0)) := Lib.hid (kb_alloc (heap_alloc_at v3 _) _)
            have K19 : Hid (((v3.alloc (.cells #[.int .u64 0, .int .i64 0, .bool false, .int .u64 0, .slice none 0 0, .slice none 0 0] 86)).alloc (.cells #[.slice none 0 0, .slice none 0 0] 25)).heap[v3.heap.size + 1]? = some (bobj 25 none 0 0 none 0 0)) := Lib.hid (by have := heap_alloc_at (v3.alloc (.cells #[.int .u64 0, .int .i64 0, .bool false, .int .u64 0, .slice none 0 0, .slice none 0 0] 86)) (.cells #[.slice none 0 0, .slice none 0 0] 25); rwa [show (v3.alloc (.cells #[.int .u64 0, .int .i64 0, .bool false, .int .u64 0, .slice none 0 0, .slice none 0 0] 86)).heap.size = v3.heap.size + 1 by simp] at this)
            have lb := l3.trans (bb.mono l3.size)
            have B1_ := Lib.hid (b1.below bb)
            have B3_ := Lib.hid (b3.below bb)
            have R1 : Hid (RO v3.heap.size A1 n1 M1 m1 A3 n3 M3 m3) := Lib.hid (RO.new b1 b3)
            have R2 : Hid (RO (v3.heap.size + 1) A1 n1 M1 m1 A3 n3 M3 m3) := Lib.hid ⟨fun b' o' e' h0 hb => by have := b1.ar.lt e' h0; omega, fun b' o' e' h0 hb => by have := b1.mr.lt e' h0; omega, fun b' o' e' h0 hb => by have := b3.ar.lt e' h0; omega, fun b' o' e' h0 hb => by have := b3.mr.lt e' h0; omega⟩
            have OB := Lib.hid hoff
            have HD := Lib.hid hdue
            have LL_ := Lib.hid (L.out.trans (lb.mono L.out.size))
            have KX_ := Lib.hid (kb_below KX.out lb)
            have LB := Lib.hid lb
            have SZ : Hid (gx < v3.heap.size ∧ b < v3.heap.size ∧ g16 < v3.heap.size ∧ w.heap.size ≤ v3.heap.size ∧ v2.heap.size ≤ v3.heap.size) := Lib.hid (by have h1 := heap_lt KX.out; have h2 := heap_lt K16.out; have h3 := l3.size; have h4 := GX.out; have h5 := L.out.size; omega)
            obtain ⟨fs, hfs⟩ := undRC
            have HU := Lib.hid hfs
            clear hfs b1 b3 hoff hdue hoo l3 bb lb L KX BX
            go_upto_region 22 with (first
              | (refine wpList_store_agg rfl 86 _ _ rfl v3.heap.size (rvals 0 0 false 0 none 0 0 none 0 0) (rvals a0 a1 oo E A1 n1 c1 M1 m1 d1) rfl rfl ?hz rfl sizeRC (onesRC _ _ _ _ _ _ _ _ _ _) ?_; (case hz => exact K18.out); intro w7 k7 f7 z7; clear z7; have K7 := Lib.hid k7; have F7 := Lib.hid f7; have K197 := Lib.hid (carry f7 K19.out (by omega)); clear k7 f7)
              | (refine wpList_store_agg rfl 25 _ _ rfl (v3.heap.size + 1) [.slice none 0 0, .slice none 0 0] [.slice A3 n3 c3, .slice M3 m3 d3] rfl rfl ?hz rfl sizeR (onesBB _ _ _ _ _ _) ?_; (case hz => exact K197.out); intro w8 k8 f8 z8; clear z8; have K8 : Hid (w8.heap[v3.heap.size + 1]? = some (bobj 25 A3 n3 c3 M3 m3 d3)) := Lib.hid k8; have F8 := Lib.hid f8; have K78 := Lib.hid (carry f8 K7.out (by omega)); have KX8 := Lib.hid (carry f8 (carry F7.out KX_.out (by have := SZ.out; omega)) (by have := SZ.out; omega)); clear k8 f8)
              | (refine wpList_load_agg rfl 86 _ rfl v3.heap.size rfl (rvals a0 a1 oo E A1 n1 c1 M1 m1 d1) ?hz _ HU.out rfl sizeRC ?_; (case hz => exact K78.out))
              | (refine wpList_store_agg rfl 86 _ _ rfl gx (rvals a0 a1 S.opn E A k c M m e) (rvals a0 a1 oo E A1 n1 c1 M1 m1 d1) rfl rfl ?hz rfl sizeRC (onesRC _ _ _ _ _ _ _ _ _ _) ?_; (case hz => exact KX8.out); intro w9 k9 f9 z9; clear z9; have K9 := Lib.hid k9; have F9 := Lib.hid f9; clear k9 f9))
            have sz := SZ.out
            have l27 : Below v2.heap.size v2 w7 := LB.out.trans (F7.out.below LB.out.size (fun j hj e => by omega))
            have l28 : Below v2.heap.size v2 w8 := l27.trans (F8.out.below l27.size (fun j hj e => by omega))
            have KT := Lib.hid (carry F9.out (kb_below K16.out l28) N16.out)
            have KZ := Lib.hid (carry F9.out K8.out (by omega))
            have B5' := Lib.hid ((B5.out.below l28).offs (F5.out.1.off (fun j e => by omega) _) (F5.out.2.off (fun j e => by omega) _) F9.out)
            have B3 := Lib.hid (((B3_.out.offs R1.out.b R1.out.n F7.out).offs R2.out.b R2.out.n F8.out).offs (OB.out.2.1.mono (fun j e => .inr e)) (OB.out.2.2.mono (fun j e => .inr e)) F9.out)
            have l7 : Below w.heap.size w w7 := LL_.out.trans (F7.out.below LL_.out.size (fun j hj e => by omega))
            have l8 : Below w.heap.size w w8 := l7.trans (F8.out.below l7.size (fun j hj e => by omega))
            have L9 : Hid (Below w.heap.size w w9) := Lib.hid (l8.trans (F9.out.below l8.size (fun j hj e => by have := GW.out; have := GX.out; omega)))
            have hP : CP w w9 b gx a0 a1 (S.wait N) (i + 1) E A1 n1 c1 M1 m1 d1 := by
              have h1 := wait_same S N
              refine ⟨h1.1.trans P.out.win, h1.2.1.trans P.out.most, by have := P.out.zl; omega, by have := P.out.ml; omega, ?_, ?_, ?_, OB.out.1, HD.out, L9.out⟩
              · exact (CN.out.below l28).off F9.out (by have := GX.out; omega) (by omega)
              · rw [HOO.out]; exact K9.out
              · exact ((B1_.out.offs R1.out.a R1.out.m F7.out).offs R2.out.a R2.out.m F8.out).offs (OB.out.1.1.mono (fun j e => .inr e)) (OB.out.1.2.mono (fun j e => .inr e)) F9.out
            have HP := Lib.hid hP
            have hm5 : m5 ≤ 1000 := by
              have h1 := B5'.out.mlen
              have h2 : (if x = true then S.ms else []).length ≤ S.ms.length := by split <;> simp
              have := P.out.ml
              have := I100.out
              omega
            have HS : Hid (∀ wx, Below w9.heap.size w9 wx → (wx.cell? ⟨g16, 0, none⟩ = some (.slice A5 n5 c5) ∧ wx.cell? ⟨g16, 1, none⟩ = some (.slice M5 m5 d5)) ∧ (wx.cell? ⟨v3.heap.size + 1, 0, none⟩ = some (.slice A3 n3 c3) ∧ wx.cell? ⟨v3.heap.size + 1, 1, none⟩ = some (.slice M3 m3 d3))) := Lib.hid (fun wx hb => ⟨bobj_cells (kb_below KT.out hb), bobj_cells (kb_below KZ.out hb)⟩)
            clear B5
            have B5 := B5'
            have S1 : Hid (∀ wx, Below w9.heap.size w9 wx → Calls Try.prog 48 #[batV A5 n5 c5 M5 m5 d5] wx fun r w' => ∃ M' d', r = .returned (batV A5 n5 c5 M' m5 d') ∧ Bat w' A5 n5 c5 M' m5 d' (if x = true then S.zs else []) (if x = true then S.ms else []) ∧ Below wx.heap.size wx w') := Lib.hid (fun wx hb => real14_any A5 n5 c5 M5 m5 d5 _ _ wx (B5.out.below hb) hm5)
            have S2 : Hid (∀ M' d' wx, Bat wx A5 n5 c5 M' m5 d' (if x = true then S.zs else []) (if x = true then S.ms else []) → Below w9.heap.size w9 wx → Calls Try.prog 36 #[batV A5 n5 c5 M' m5 d', batV A3 n3 c3 M3 m3 d3] wx fun r w' => r = .returned (.bool true) ∧ Below wx.heap.size wx w') := Lib.hid (fun M' d' wx h hb => by
              have h' := B3.out.below hb
              obtain rfl : n3 = n5 := h'.alen.symm.trans h.alen
              obtain rfl : m3 = m5 := h'.mlen.symm.trans h.mlen
              exact rsame_any A5 n3 c5 M' m3 d' A3 c3 M3 d3 _ _ wx h h')
            have D0 : Hid (Below w9.heap.size w9 w9.drew) := Lib.hid (ali_below (drew_ali _))
            clear hP hm5 sz l7 l8 l27 l28 P KT KZ B5 B5' B3 L9 K9 F9 F8 F7 K7 K8 K78 K197 KX8 K18 K19 B1_ B3_ R1 R2 OB HD LL_ KX_ K16 CN LB SZ HU HSW DF F5 N16 HX HOO
            go_region_held3 (fun wx => (wx.cell? ⟨g16, 0, none⟩ = some (.slice A5 n5 c5) ∧ wx.cell? ⟨g16, 1, none⟩ = some (.slice M5 m5 d5)) ∧ (wx.cell? ⟨v3.heap.size + 1, 0, none⟩ = some (.slice A3 n3 c3) ∧ wx.cell? ⟨v3.heap.size + 1, 1, none⟩ = some (.slice M3 m3 d3)))
              (first
                | with_reducible exact HS.out _ D0.out
                | with_reducible exact HS.out _ t1
                | with_reducible exact HS.out _ t2)
              (first
                | (go_at_call 36; refine (S2.out M7 d7 _ r1 t1).mono ?_; rintro r z2 ⟨rfl, y2⟩; have t2 := t1.trans (y2.mono t1.size))
                | (go_at_call 48; refine (S1.out _ D0.out).mono ?_; rintro r z1 ⟨M7, d7, rfl, r1, y1⟩; have t1 := D0.out.trans (y1.mono D0.out.size)))
            have T2 := Lib.hid t2
            clear t1 t2 y1 y2 r1
            go_wp2
            go_meet
            exact ⟨_, _, _, _, _, _, _, _, HP.out.below T2.out⟩
        case rest =>
          obtain ⟨S', E', A', k', c', M', m', e', hp⟩ := hcut
          have P' := Lib.hid hp
          obtain ⟨o, ho⟩ : ∃ o, S'.opn = o := ⟨_, rfl⟩
          have z2 : ∀ p : Later wc, p.v.cell? ⟨gx, 2, none⟩ = some (.bool o) := fun p => by rw [← ho]; exact p.cell (vobj_cell hp.blk rfl)
          have HOP : Hid (∀ p : Later wc, Calls Try.prog 51 #[.pointer (some ⟨b, 0, none⟩)] p.v fun r w' => r = .returned (.bool o) ∧ p.v = w') := Lib.hid (fun p => by rw [← ho]; exact open_col b S' p.v (hp.col.col.below p.low))
          clear hp ho P HSW
          go_wp2
          refine wp_region_later (by kernel_rfl) (by kernel_rfl) ?_
          repeat (first | go_big_quiet_step (first | (go_at_call 51; with_reducible exact Calls.later_is (HOP.out _))))
          refine wpQuiet_nil ?_
          rintro w10 ⟨⟨_, b10⟩, rfl⟩
          have P10 := Lib.hid (P'.out.below b10)
          clear z2 HOP b10 P'
          go_wp2
          go_roundg (n - (i + 1))
          case measure => have := G.out; omega
          case rel => exact ⟨i + 1, N, S', E', A', k', c', M', m', e', by omega, by simp, rfl, NN.out, P10.out⟩
      · have hex : ((i : Int) < l2 ∧ ¬ (i : Int) < 100) ∨ ¬ (i : Int) < l2 := by have := G.out; omega
        rcases hex with ⟨h1, h2⟩ | h1
        all_goals
          go_wp2
          go_ret
          exact ⟨rfl, P.out.low⟩

set_option maxRecDepth 100000 in
theorem lifted (os : Os) (started : os.Started) (H : Type) (enc : TypeId × Value → H) :
    ReturnsInHanded {} Try.checked os 10 .any (Rows.collPlaysSpec.pre6 enc Try.prog Try.f10 Rows.collPlaysRow.domain false) (Rows.collPlaysSpec.post enc Try.prog Try.f10 false true false false) := by
  refine returnsInHanded_of_change_sized (C := Try.checked) own started (by kernel_rfl) Try.func10
    (ChangeSpec.witness6 (enc := enc) (C := Try.checked) false ⟨#[], #[.int .u64 0, .int .i64 0, .slice none 0 0], []⟩ 8 (by kernel_rfl) (by kernel_rfl) (by kernel_rfl) (by kernel_rfl)) ?_
  intro W base args ds gs before hval0 hW hcnd hsz0 _
  have hval : ∀ (j : Nat) t v, Try.f10.params[j]? = some t → args[j]? = some v → Value.okWide Try.prog W .any base t v := hval0
  have hsz : (DataW.weightsEach Try.prog (Try.f10.params.toList ++ Rows.collPlaysSpec.plain.varTypes Try.prog) (ds ++ gs)).all (· ≤ reachBytes) = true := hsz0
  have hW' := hW
  obtain ⟨p, q, hA0, hV, rfl, hfz, hnd⟩ := hW
  have hA : DataW.TrodAll enc Try.prog W 0 (fun _ => true) true Try.f10.params.toList args.toList ds p := hA0
  rw [Try.params10] at hA hval hsz
  have hAk := hA
  obtain ⟨v0, vs0, d0, ds0, p0, q0, hargs, rfl, rfl, h0, r0⟩ := trodAll_cons hA
  obtain ⟨v1, vs1, d1, ds1, p1, q1, rfl, rfl, rfl, h1, r1⟩ := trodAll_cons r0
  obtain ⟨v2, vs2, d2, ds2, p2, q2, rfl, rfl, rfl, h2, r2⟩ := trodAll_cons r1
  obtain ⟨rfl, rfl, rfl⟩ := trodAll_nil r2
  obtain rfl : args = #[v0, v1, v2] := by cases args; simp_all
  obtain ⟨rfl, rfl⟩ := trodVars_none hV
  obtain ⟨a0, rfl, rfl, rfl, w0⟩ := open_int Try.underlying26 (hval 0 26 v0 rfl rfl) h0
  obtain ⟨a1, rfl, rfl, rfl, w1⟩ := open_int Try.underlying3 (hval 1 3 v1 rfl rfl) h1
  obtain ⟨a2, l2, k2, L2, rfl, w2⟩ := open_slice_flat (ks := [.int .i64, .int .i64, .int .i64, .int .u64]) (bytes := 32) 8 Try.underlying82 (by kernel_rfl) (by kernel_rfl) (by decide) (by kernel_rfl) (hval 2 82 v2 rfl rfl) h2 (fun elems rest hd => by subst hd; exact sized_slice hsz (j := 2) (t := 82) (e := 91) rfl rfl Try.underlying82)
  clear hA0 hval0 hsz0
  refine (walk W a0 w0 a1 w1 a2 l2 k2 L2 w2).mono fun e W' ⟨he, bel⟩ => ?_
  subst he
  exact ⟨_, rfl, _, _, _, [], _, [], hW', trodAll_mk1 (shut_bool Try.underlying4 _), trodAll_below laidOut bel _ _ _ _ (by kernel_rfl) hAk, rfl, bel.frame _, fun h => by cases h⟩

theorem over : Rows.collPlaysRow.holds Try.pinned (OpenSpec.ofChange Rows.collPlaysSpec) :=
  OpenClaim.holds_of_wide 10 Try.f10 rfl rfl rfl rfl rfl rfl rfl ⟨rfl, rfl, rfl, rfl, rfl⟩ rfl rfl rfl rfl rfl (by kernel_rfl) Try.func10 (by kernel_rfl)
    (of_decide_eq_true (by kernel_rfl)) (by unfold Func.isWrapper; first | (rw [if_pos (by decide +kernel)]; kernel_rfl) | (rw [if_neg (by decide +kernel)]; exact ⟨rfl, rfl⟩))
    (fun os started H enc _ => lifted os started H enc)

theorem proved : Rows.CollPlaysSaid := over
#print axioms proved
end Go.Proofs.Ytpfmjocpgnoepaa.collPlays
