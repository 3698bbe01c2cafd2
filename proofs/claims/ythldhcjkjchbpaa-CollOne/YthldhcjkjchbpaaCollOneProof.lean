/- What is proved: CollOne of porpoiselaw14 answers true for every input, and leaves its arguments as they were; conditions: those of the given row alone. -/
import Derived.Test.YthldhcjkjchbpaaKit
import Derived.Test.YthldhcjkjchbpaaDeed14
import Derived.Deep.DeepCutAuto
namespace Go.Proofs.Ythldhcjkjchbpaa.collOne
open Go.ChangeShapes Go.WideShapes Go.ChangeAt Go.RowKit Go.Deep
open Go.ChangeMaps (open_string shut_string)
set_option linter.unusedVariables false

theorem own : ownKnob Try.prog.godebug = none := by kernel_rfl
theorem laidOut : laidOutB Try.prog = true := by kernel_rfl

def S0 : CO := ⟨5, 1, [], [], 0⟩
theorem S0_next (t i x : Int) : S0.next t i x = S0 := rfl
theorem S0_step (t i x : Int) : S0.step t i x = ⟨true, true, addS t 5, [x], [⟨i, 0⟩]⟩ := rfl

set_option maxRecDepth 100000 in
set_option maxHeartbeats 2000000 in
theorem walk (w : World) (a0 : Option Addr) (l0 k0 : Nat) (L0 : List (List Value)) (w0 : SliceIn w [.int .i64, .int .i64, .int .i64, .int .u64] 32 a0 l0 k0 L0) :
    Calls Try.prog 9 #[.slice a0 l0 k0] w fun e w' => e = .returned (.bool true) ∧ Below w.heap.size w w' := by
  obtain ⟨V, hrow, hfit, hlk, hkm⟩ := deeds_in w0
  obtain ⟨n, hn1, hn2, hn3⟩ := cap14 l0
  have hml := hrow.2.1
  unfold maxLen at hml
  have HR := Lib.hid hrow
  have HF := Lib.hid hfit
  clear w0 hrow hfit hlk hkm
  go_enter Try.func9, Try.ntmps9
  go_wp2_with fail
  refine (awake14_any w).mono ?_
  rintro r wa ⟨rfl, ba⟩
  have LA := Lib.hid ba
  clear ba
  go_wp2_with fail
  refine (new_col 5 1 wa (by decide) rfl).mono ?_
  rintro r w1 ⟨rfl, h1, b1⟩
  have C1 : Hid (Col w1 wa.heap.size S0) := Lib.hid h1
  have L1 := Lib.hid (LA.out.trans (b1.mono LA.out.size))
  have GB : Hid (w.heap.size ≤ wa.heap.size) := Lib.hid LA.out.size
  clear h1 b1 LA
  go_wp2
  generalize wa.heap.size = b at *
  go_loopg [5] n (fun q v5 wr => ∃ i : Nat, i + q = n ∧ v5 = .int .i64 i ∧ Col wr b S0 ∧ Below w.heap.size w wr)
  case atStart => exact ⟨0, by omega, rfl, C1.out, L1.out⟩
  case round =>
    obtain ⟨i, hq, rfl, hcol, hlow⟩ := hrel
    have G := Lib.hid hq
    have CC := Lib.hid hcol
    have LL := Lib.hid hlow
    clear hq hcol hlow
    by_cases hin : i < n
    · have hi1 : (i : Int) < l0 := by omega
      have hi2 : (i : Int) < 100 := by omega
      obtain ⟨rb, off, d, rfl, hd, hlt, q0, q1, q2, q3⟩ := (HR.out.later LL.out).deed_at (i := i) (by omega)
      have hlt0 := HR.out.lt rfl (by omega)
      have DF := Lib.hid (HF.out d (List.mem_of_getElem? hd))
      have hs : ∀ wx, Frm (· = b) wr wx → wx.cell? ⟨rb, off + i * 4 + 1, none⟩ = some (.int .i64 d.i) ∧ wx.cell? ⟨rb, off + i * 4 + 2, none⟩ = some (.int .i64 d.x) ∧ wx.cell? ⟨rb, off + i * 4 + 3, none⟩ = some (.int .u64 d.t) := fun wx hf => by
        have hb : wx.heap[rb]? = wr.heap[rb]? := hf.block rb hlt (by have := GB.out; show ¬ rb = b; omega)
        exact ⟨(World.cell?_of_block hb).trans q1, (World.cell?_of_block hb).trans q2, (World.cell?_of_block hb).trans q3⟩
      have HSW := Lib.hid hs
      clear hs hd hlt hlt0 q0 q1 q2 q3
      go_wp2
      go_cut [6] (fun v6 wq => ∃ (g : Nat) (A : Option Addr) (n c : Nat) (M : Option Addr) (m e : Nat), v6 = .pointer (some ⟨g, 0, none⟩) ∧ Told wr wq b g (S0.next d.t d.i d.x) (S0.step d.t d.i d.x) A n c M m e)
      case first =>
        have CD : Hid (Col wr.drew b S0) := Lib.hid (CC.out.below (ali_below (drew_ali wr)))
        have LT : Hid (b < wr.drew.heap.size) := Lib.hid (by obtain ⟨_, _, _, _, _, _, h⟩ := CC.out; exact h.lt)
        have FW : Hid (Frm (· = b) wr wr.drew) := Lib.hid (Frm.of_ali (drew_ali wr))
        have HADD : Hid (∀ wx, Col wx b S0 → Calls Try.prog 30 #[.pointer (some ⟨b, 0, none⟩), .int .u64 d.t, .int .i64 d.i, .int .i64 d.x] wx fun r w' => ∃ A n c M m e, r = .returned (stepV (S0.step d.t d.i d.x).o (S0.step d.t d.i d.x).r (S0.step d.t d.i d.x).due A n c M m e) ∧ Col w' b (S0.next d.t d.i d.x) ∧ Bat w' A n c M m e (S0.step d.t d.i d.x).zs (S0.step d.t d.i d.x).ms ∧ Fresh (b + 1) A ∧ Fresh (b + 1) M ∧ Frm (· = b) wx w') :=
          Lib.hid (fun wx h => add_told b S0 d.t d.i d.x wx h DF.out.2.1 (by decide) (by decide) (by decide) (by decide) DF.out.2.2.2.1 DF.out.2.2.2.2)
        have HS : Hid (∀ wx, Frm (· = b) wr.drew wx → wx.cell? ⟨rb, off + i * 4 + 1, none⟩ = some (.int .i64 d.i) ∧ wx.cell? ⟨rb, off + i * 4 + 2, none⟩ = some (.int .i64 d.x) ∧ wx.cell? ⟨rb, off + i * 4 + 3, none⟩ = some (.int .u64 d.t)) := Lib.hid (fun wx hf => HSW.out wx (FW.out.trans hf (fun _ _ e => e)))
        clear HSW CC C1 L1 LL HR HF DF G
        refine wp_region_held_drew (S := fun wx => wx.cell? ⟨rb, off + i * 4 + 1, none⟩ = some (.int .i64 d.i) ∧ wx.cell? ⟨rb, off + i * 4 + 2, none⟩ = some (.int .i64 d.x) ∧ wx.cell? ⟨rb, off + i * 4 + 3, none⟩ = some (.int .u64 d.t)) (by kernel_rfl) (HS.out _ (Frm.refl _ _)) (fun hHeld => ?_)
        generalize wr.drew = wd at *
        refine wpAnyH_take (i := 0) (oi := ⟨_, _, _, _, _, _⟩) (v := ?_) rfl (by kernel_rfl) (by kernel_rfl) (by kernel_rfl) (fun _ _ _ h => h) (Or.inl ⟨by rfl, ?_⟩) (by assumption) ?_
        rotate_left
        · intro w hSw; (try dsimp only at hSw); go_simp; try (with_reducible rfl)
        try go_frame
        refine wpAnyH_take (i := 1) (oi := ⟨_, _, _, _, _, _⟩) (v := ?_) rfl (by kernel_rfl) (by kernel_rfl) (by kernel_rfl) (fun _ _ _ h => h) (Or.inl ⟨by rfl, ?_⟩) (by assumption) ?_
        rotate_left
        · intro w hSw; (try dsimp only at hSw); go_simp; try (with_reducible rfl)
        try go_frame
        refine wpAnyH_take (i := 2) (oi := ⟨_, _, _, _, _, _⟩) (v := ?_) rfl (by kernel_rfl) (by kernel_rfl) (by kernel_rfl) (fun _ _ _ h => h) (Or.inl ⟨by rfl, ?_⟩) (by assumption) ?_
        rotate_left
        · intro w hSw; (try dsimp only at hSw); go_simp; try (with_reducible rfl)
        try go_frame
        refine wpAnyH_take (i := 3) (oi := ⟨_, _, _, _, _, _⟩) (v := ?_) rfl (by kernel_rfl) (by kernel_rfl) (by kernel_rfl) (fun _ _ _ h => h) (Or.inl ⟨by rfl, ?_⟩) (by assumption) ?_
        rotate_left
        · intro w hSw; (try dsimp only at hSw); go_simp; try (with_reducible rfl)
        try go_frame
        refine wpAnyH_take (i := 4) (oi := ⟨_, _, _, _, _, _⟩) (v := ?_) rfl (by kernel_rfl) (by kernel_rfl) (by kernel_rfl) (fun _ _ _ h => h) (Or.inl ⟨by rfl, ?_⟩) (by assumption) ?_
        rotate_left
        · intro w hSw; (try dsimp only at hSw); go_simp; try (with_reducible rfl)
        try go_frame
        refine wpAnyH_take (i := 5) (oi := ⟨_, _, _, _, _, _⟩) (v := ?_) rfl (by kernel_rfl) (by kernel_rfl) (by kernel_rfl) (fun _ _ _ h => h) (Or.inl ⟨by rfl, ?_⟩) (by assumption) ?_
        rotate_left
        · intro w hSw; (try dsimp only at hSw); go_simp; try (with_reducible rfl)
        try go_frame
        refine wpAnyH_take (i := 6) (oi := ⟨_, _, _, _, _, _⟩) (v := ?_) rfl (by kernel_rfl) (by kernel_rfl) (by kernel_rfl) (fun _ _ _ h => h) (Or.inl ⟨by rfl, ?_⟩) (by assumption) ?_
        rotate_left
        · intro w hSw; (try dsimp only at hSw); go_simp; try (with_reducible rfl)
        try go_frame
        refine wpAnyH_take (i := 7) (oi := ⟨_, _, _, _, _, _⟩) (v := ?_) rfl (by kernel_rfl) (by kernel_rfl) (by kernel_rfl) (fun _ _ _ h => h) (Or.inl ⟨by rfl, ?_⟩) (by assumption) ?_
        rotate_left
        · intro w hSw; (try dsimp only at hSw); go_simp; try (with_reducible rfl)
        try go_frame
        refine wpAnyH_take (i := 8) (oi := ⟨_, _, _, _, _, _⟩) (v := ?_) rfl (by kernel_rfl) (by kernel_rfl) (by kernel_rfl) (fun _ _ _ h => h) (Or.inl ⟨by rfl, ?_⟩) (by assumption) ?_
        rotate_left
        · intro w hSw; (try dsimp only at hSw); go_simp; try (with_reducible rfl)
        try go_frame
        refine wpAnyH_take (i := 9) (oi := ⟨_, _, _, _, _, _⟩) (v := ?_) rfl (by kernel_rfl) (by kernel_rfl) (by kernel_rfl) (fun _ _ _ h => h) (Or.inl ⟨by rfl, ?_⟩) (by assumption) ?_
        rotate_left
        · intro w hSw; (try dsimp only at hSw); go_simp; try (with_reducible rfl)
        try go_frame
        refine wpAnyH_take (i := 10) (oi := ⟨_, _, _, _, _, _⟩) (v := ?_) rfl (by kernel_rfl) (by kernel_rfl) (by kernel_rfl) (fun _ _ _ h => h) (Or.inl ⟨by rfl, ?_⟩) (by assumption) ?_
        rotate_left
        · intro w hSw; (try dsimp only at hSw); go_simp; try (with_reducible rfl)
        try go_frame
        refine wpAnyH_take (i := 11) (oi := ⟨_, _, _, _, _, _⟩) (v := ?_) rfl (by kernel_rfl) (by kernel_rfl) (by kernel_rfl) (fun _ _ _ h => h) (Or.inl ⟨by rfl, ?_⟩) (by assumption) ?_
        rotate_left
        · intro w hSw; (try dsimp only at hSw); go_simp; try (with_reducible rfl)
        try go_frame
        refine wpAnyH_take (i := 12) (oi := ⟨_, _, _, _, _, _⟩) (v := ?_) rfl (by kernel_rfl) (by kernel_rfl) (by kernel_rfl) (fun _ _ _ h => h) (Or.inl ⟨by rfl, ?_⟩) (by assumption) ?_
        rotate_left
        · intro w hSw; (try dsimp only at hSw); go_simp; try (with_reducible rfl)
        try go_frame
        refine wpAnyH_take (i := 13) (oi := ⟨_, _, _, _, _, _⟩) (v := ?_) rfl (by kernel_rfl) (by kernel_rfl) (by kernel_rfl) (fun _ _ _ h => h) (Or.inl ⟨by rfl, ?_⟩) (by assumption) ?_
        rotate_left
        · intro w hSw; (try dsimp only at hSw); go_simp; try (with_reducible rfl)
        try go_frame
        refine wpAnyH_take (i := 14) (oi := ⟨_, _, _, _, _, _⟩) (v := ?_) rfl (by kernel_rfl) (by kernel_rfl) (by kernel_rfl) (fun _ _ _ h => h) (Or.inl ⟨by rfl, ?_⟩) (by assumption) ?_
        rotate_left
        · intro w hSw; (try dsimp only at hSw); go_simp; try (with_reducible rfl)
        try go_frame
        refine wpAnyH_take (i := 15) (oi := ⟨_, _, _, _, _, _⟩) (v := ?_) rfl (by kernel_rfl) (by kernel_rfl) (by kernel_rfl) (fun _ _ _ h => h) (Or.inl ⟨by rfl, ?_⟩) (by assumption) ?_
        rotate_left
        · intro w hSw; (try dsimp only at hSw); go_simp; try (with_reducible rfl)
        try go_frame
        refine wpAnyH_ready (rs := [16, 17]) (by kernel_rfl) (by simp) ?_
        refine ready_cons (i := 16) (o := ⟨_, _, _, _, _, _⟩) rfl ?_ (ready_cons (i := 17) (o := ⟨_, _, _, _, _, _⟩) rfl ?_ AllReadyH.nil)
        · intro K hK
          refine call_step (f := 30) (args := #[.pointer (some ⟨b, 0, none⟩), .int .u64 d.t, .int .i64 d.i, .int .i64 d.x]) rfl (by kernel_rfl) ?_
          refine (HADD.out wd CD.out).mono ?_
          rintro r w5 ⟨A5, n5, c5, M5, m5, d5, rfl, h5, b5, p5, q5, f5⟩
          refine ⟨_, rfl, ?_⟩
          have F5 := Lib.hid f5
          have C5 := Lib.hid h5
          have B5 := Lib.hid b5
          have P5 := Lib.hid p5
          have Q5 := Lib.hid q5
          refine hK.out _ _ (HS.out _ F5.out) (fun hHeld => ?_)
          clear hK K h5 b5 p5 q5 f5
          try go_frame
          refine wpAnyH_ready (rs := [17]) (by kernel_rfl) (by simp) ?_
          refine ready_cons (i := 17) (o := ⟨_, _, _, _, _, _⟩) rfl ?_ AllReadyH.nil
          intro K hK
          constructor
          go_simp
          have F6 : Hid (Frm (· = b) wd (w5.alloc (.cells #[.bool false, .bool false, .int .u64 0, .slice none 0 0, .slice none 0 0] 72))) := Lib.hid (F5.out.then_below (below_alloc w5 _))
          have K6 : Hid ((w5.alloc (.cells #[.bool false, .bool false, .int .u64 0, .slice none 0 0, .slice none 0 0] 72)).heap[w5.heap.size]? = some (sobj false false 0 none 0 0 none 0 0)) := Lib.hid (heap_alloc_at w5 _)
          have C6 : Hid (Col (w5.alloc (.cells #[.bool false, .bool false, .int .u64 0, .slice none 0 0, .slice none 0 0] 72)) b (S0.next d.t d.i d.x)) := Lib.hid (C5.out.below (below_alloc w5 _))
          have B6 : Hid (Bat (w5.alloc (.cells #[.bool false, .bool false, .int .u64 0, .slice none 0 0, .slice none 0 0] 72)) A5 n5 c5 M5 m5 d5 (S0.step d.t d.i d.x).zs (S0.step d.t d.i d.x).ms) := Lib.hid (B5.out.below (below_alloc w5 _))
          have NG : Hid (w5.heap.size ≠ b) := Lib.hid (by have := LT.out; have := F5.out.size; omega)
          have GG' : Hid (wd.heap.size ≤ w5.heap.size) := Lib.hid F5.out.size
          refine hK.out _ _ (HS.out _ F6.out) (fun hHeld => ?_)
          clear hK K F5 C5 B5
          generalize w5.alloc (.cells #[.bool false, .bool false, .int .u64 0, .slice none 0 0, .slice none 0 0] 72) = w6 at *
          generalize w5.heap.size = g at *
          have F5 := F6
          have C5 := C6
          have B5 := B6
          clear F6 C6 B6
          try go_frame
          refine wpAnyH_ready (rs := [18]) (by kernel_rfl) (by simp) ?_
          refine ready_cons (i := 18) (o := ⟨_, _, _, _, _, _⟩) rfl ?_ AllReadyH.nil
          intro K hK
          refine store_step rfl 72 _ _ rfl g 0 72 (svals false false 0 none 0 0 none 0 0) (svals (S0.step d.t d.i d.x).o (S0.step d.t d.i d.x).r (S0.step d.t d.i d.x).due A5 n5 c5 M5 m5 d5) rfl rfl K6.out (Nat.le_refl _) sizeS (onesS _ _ _ _ _ _ _ _ _) ?_
          intro w7 k7 f7 _
          have told := told_put C5.out B5.out P5.out Q5.out F5.out K6.out GG'.out (fun e => NG.out e.symm) k7 f7
          refine hK.out _ _ (HS.out _ told.frm) (fun hHeld => ?_)
          clear hK K k7 f7
          try go_frame
          refine wpAnyH_done (by kernel_rfl) ?_ _
          go_wp2
          go_meet
          exact ⟨g, A5, n5, c5, M5, m5, d5, rfl, told.from FW.out⟩
        · intro K hK
          constructor
          go_simp
          have F6 : Hid (Frm (· = b) wd (wd.alloc (.cells #[.bool false, .bool false, .int .u64 0, .slice none 0 0, .slice none 0 0] 72))) := Lib.hid (Frm.of_below (below_alloc wd _))
          have K0 : Hid ((wd.alloc (.cells #[.bool false, .bool false, .int .u64 0, .slice none 0 0, .slice none 0 0] 72)).heap[wd.heap.size]? = some (sobj false false 0 none 0 0 none 0 0)) := Lib.hid (heap_alloc_at wd _)
          have C6 : Hid (Col (wd.alloc (.cells #[.bool false, .bool false, .int .u64 0, .slice none 0 0, .slice none 0 0] 72)) b S0) := Lib.hid (CD.out.below (below_alloc wd _))
          have NG : Hid (wd.heap.size ≠ b) := Lib.hid (by have := LT.out; omega)
          have GG : Hid (wd.heap.size ≤ wd.heap.size) := Lib.hid (Nat.le_refl _)
          refine hK.out _ _ (HS.out _ F6.out) (fun hHeld => ?_)
          clear hK K
          generalize wd.alloc (.cells #[.bool false, .bool false, .int .u64 0, .slice none 0 0, .slice none 0 0] 72) = w6 at *
          obtain ⟨g, hg⟩ : ∃ g, wd.heap.size = g := ⟨_, rfl⟩
          rw [hg] at K0 NG
          have GG' : Hid (wd.heap.size ≤ g) := Lib.hid (Nat.le_of_eq hg)
          try rw [hg]
          clear hg GG
          try go_frame
          refine wpAnyH_ready (rs := [16]) (by kernel_rfl) (by simp) ?_
          refine ready_cons (i := 16) (o := ⟨_, _, _, _, _, _⟩) rfl ?_ AllReadyH.nil
          intro K hK
          refine call_step (f := 30) (args := #[.pointer (some ⟨b, 0, none⟩), .int .u64 d.t, .int .i64 d.i, .int .i64 d.x]) rfl (by kernel_rfl) ?_
          refine (HADD.out w6 C6.out).mono ?_
          rintro r w5 ⟨A5, n5, c5, M5, m5, d5, rfl, h5, b5, p5, q5, f5⟩
          refine ⟨_, rfl, ?_⟩
          have K6 := Lib.hid (carry f5 K0.out NG.out)
          have F5 := Lib.hid (F6.out.trans f5 (fun _ _ e => e))
          have C5 := Lib.hid h5
          have B5 := Lib.hid b5
          have P5 := Lib.hid p5
          have Q5 := Lib.hid q5
          refine hK.out _ _ (HS.out _ F5.out) (fun hHeld => ?_)
          clear hK K h5 b5 p5 q5 f5 F6 K0 C6
          try go_frame
          refine wpAnyH_ready (rs := [18]) (by kernel_rfl) (by simp) ?_
          refine ready_cons (i := 18) (o := ⟨_, _, _, _, _, _⟩) rfl ?_ AllReadyH.nil
          intro K hK
          refine store_step rfl 72 _ _ rfl g 0 72 (svals false false 0 none 0 0 none 0 0) (svals (S0.step d.t d.i d.x).o (S0.step d.t d.i d.x).r (S0.step d.t d.i d.x).due A5 n5 c5 M5 m5 d5) rfl rfl K6.out (Nat.le_refl _) sizeS (onesS _ _ _ _ _ _ _ _ _) ?_
          intro w7 k7 f7 _
          have told := told_put C5.out B5.out P5.out Q5.out F5.out K6.out GG'.out (fun e => NG.out e.symm) k7 f7
          refine hK.out _ _ (HS.out _ told.frm) (fun hHeld => ?_)
          clear hK K k7 f7
          try go_frame
          refine wpAnyH_done (by kernel_rfl) ?_ _
          go_wp2
          go_meet
          exact ⟨g, A5, n5, c5, M5, m5, d5, rfl, told.from FW.out⟩
      case rest =>
        obtain ⟨g, A, n', c, M, m', e, rfl, ht⟩ := hcut
        rw [S0_next, S0_step] at ht
        have hA := ht.bat.alen
        have hM := ht.bat.mlen
        simp only [List.length_cons, List.length_nil, Nat.zero_add] at hA hM
        subst hA hM
        obtain ⟨ab, ao, z, rfl, hz, y0⟩ := ht.bat.ar.int_at (i := 0) (by decide)
        obtain rfl : d.x = z := by simpa using hz
        obtain ⟨p1, p2, _⟩ := HSW.out wc ht.frm
        have z0 : ∀ p : Later wc, p.v.cell? ⟨g, 0, none⟩ = some (.bool true) := fun p => p.cell (vobj_cell ht.blk rfl)
        have z1 : ∀ p : Later wc, p.v.cell? ⟨g, 1, none⟩ = some (.bool true) := fun p => p.cell (vobj_cell ht.blk rfl)
        have z3 : ∀ p : Later wc, p.v.cell? ⟨g, 3, none⟩ = some (.slice (some ⟨ab, ao, none⟩) 1 c) := fun p => p.cell (vobj_cell ht.blk rfl)
        have z4 : ∀ p : Later wc, p.v.cell? ⟨g, 4, none⟩ = some (.slice M 1 e) := fun p => p.cell (vobj_cell ht.blk rfl)
        have z5 : ∀ p : Later wc, p.v.cell? ⟨ab, ao, none⟩ = some (.int .i64 d.x) := fun p => p.cell y0
        have z6 : ∀ p : Later wc, p.v.cell? ⟨rb, off + i * 4 + 1, none⟩ = some (.int .i64 d.i) := fun p => p.cell p1
        have z7 : ∀ p : Later wc, p.v.cell? ⟨rb, off + i * 4 + 2, none⟩ = some (.int .i64 d.x) := fun p => p.cell p2
        have hLd : ∀ p : Later wc, Calls Try.prog 22 #[batV (some ⟨ab, ao, none⟩) 1 c M 1 e] p.v fun r w' => r = .returned (.int .i64 d.i) ∧ Below p.v.heap.size p.v w' := fun p => blead_any _ 1 c M 1 e [d.x] [⟨d.i, 0⟩] p.v (ht.bat.below p.low)
        have hOp : ∀ p : Later wc, Calls Try.prog 35 #[.pointer (some ⟨b, 0, none⟩)] p.v fun r w' => r = .returned (.bool false) ∧ p.v = w' := fun p => open_col b S0 p.v (ht.col.below p.low)
        have HLD := Lib.hid hLd
        have HOP := Lib.hid hOp
        have CW := Lib.hid ht.col
        have LW : Hid (Below w.heap.size w wc) := Lib.hid (LL.out.trans (ht.frm.below LL.out.size (fun j hj e => by have := GB.out; omega)))
        clear ht hz y0 p1 p2 hLd hOp HSW C1 L1 LL CC
        go_wp2
        refine wp_region_later (by kernel_rfl) (by kernel_rfl) ?_
        repeat (first | go_big_quiet_step (first | (go_at_call 22; with_reducible exact Calls.later_of (HLD.out _)) | (go_at_call 35; with_reducible exact Calls.later_is (HOP.out _))))
        refine wpQuiet_nil ?_
        rintro w10 ⟨⟨_, b10⟩, rfl⟩
        have C10 := Lib.hid (CW.out.below b10)
        have L10 := Lib.hid (LW.out.trans (b10.mono LW.out.size))
        clear z0 z1 z3 z4 z5 z6 z7 b10 CW LW HLD HOP
        go_wp2
        go_roundg (n - (i + 1))
        case measure => have := G.out; omega
        case rel => exact ⟨i + 1, by omega, by simp, C10.out, L10.out⟩
    · have hex : ((i : Int) < l0 ∧ ¬ (i : Int) < 100) ∨ ¬ (i : Int) < l0 := by have := G.out; omega
      rcases hex with ⟨h1, h2⟩ | h1
      all_goals
        go_wp2
        go_ret
        exact ⟨rfl, LL.out⟩

set_option maxRecDepth 100000 in
theorem lifted (os : Os) (started : os.Started) (H : Type) (enc : TypeId × Value → H) :
    ReturnsInHanded {} Try.checked os 9 .any (Rows.collOneSpec.pre6 enc Try.prog Try.f9 Rows.collOneRow.domain false) (Rows.collOneSpec.post enc Try.prog Try.f9 false true false false) := by
  refine returnsInHanded_of_change_sized (C := Try.checked) own started (by kernel_rfl) Try.func9
    (ChangeSpec.witness6 (enc := enc) (C := Try.checked) false ⟨#[], #[.slice none 0 0], []⟩ 8 (by kernel_rfl) (by kernel_rfl) (by kernel_rfl) (by kernel_rfl)) ?_
  intro W base args ds gs before hval0 hW hcnd hsz0 _
  have hval : ∀ (j : Nat) t v, Try.f9.params[j]? = some t → args[j]? = some v → Value.okWide Try.prog W .any base t v := hval0
  have hsz : (DataW.weightsEach Try.prog (Try.f9.params.toList ++ Rows.collOneSpec.plain.varTypes Try.prog) (ds ++ gs)).all (· ≤ reachBytes) = true := hsz0
  have hW' := hW
  obtain ⟨p, q, hA0, hV, rfl, hfz, hnd⟩ := hW
  have hA : DataW.TrodAll enc Try.prog W 0 (fun _ => true) true Try.f9.params.toList args.toList ds p := hA0
  rw [Try.params9] at hA hval hsz
  have hAk := hA
  obtain ⟨v0, vs0, d0, ds0, p0, q0, hargs, rfl, rfl, h0, r0⟩ := trodAll_cons hA
  obtain ⟨rfl, rfl, rfl⟩ := trodAll_nil r0
  obtain rfl : args = #[v0] := by cases args; simp_all
  obtain ⟨rfl, rfl⟩ := trodVars_none hV
  obtain ⟨a0, l0, k0, L0, rfl, w0⟩ := open_slice_flat (ks := [.int .i64, .int .i64, .int .i64, .int .u64]) (bytes := 32) 8 Try.underlying61 (by kernel_rfl) (by kernel_rfl) (by decide) (by kernel_rfl) (hval 0 61 v0 rfl rfl) h0 (fun elems rest hd => by subst hd; exact sized_slice hsz (j := 0) (t := 61) (e := 70) rfl rfl Try.underlying61)
  clear hA0 hval0 hsz0
  refine (walk W a0 l0 k0 L0 w0).mono fun e W' ⟨he, bel⟩ => ?_
  subst he
  exact ⟨_, rfl, _, _, _, [], _, [], hW', trodAll_mk1 (shut_bool Try.underlying4 _), trodAll_below laidOut bel _ _ _ _ (by kernel_rfl) hAk, rfl, bel.frame _, fun h => by cases h⟩

theorem over : Rows.collOneRow.holds Try.pinned (OpenSpec.ofChange Rows.collOneSpec) :=
  OpenClaim.holds_of_wide 9 Try.f9 rfl rfl rfl rfl rfl rfl rfl ⟨rfl, rfl, rfl, rfl, rfl⟩ rfl rfl rfl rfl rfl (by kernel_rfl) Try.func9 (by kernel_rfl)
    (of_decide_eq_true (by kernel_rfl)) (by unfold Func.isWrapper; first | (rw [if_pos (by decide +kernel)]; kernel_rfl) | (rw [if_neg (by decide +kernel)]; exact ⟨rfl, rfl⟩))
    (fun os started H enc _ => lifted os started H enc)

theorem proved : Rows.CollOneSaid := over
#print axioms proved
end Go.Proofs.Ythldhcjkjchbpaa.collOne
