/- Layer 13: awake, all. -/
import Derived.Test.YtpfmjocpgnoepaaBatAdd
import Derived.Test.YtpfmjocpgnoepaaBatSplit
namespace Go.Proofs.Ytpfmjocpgnoepaa
set_option linter.unusedVariables false
open Go.ChangeShapes Go.WideShapes Go.ChangeAt Go.RowKit

/-- Add, its answers as parameters. -/
theorem add_is (A : Option Addr) (n c : Nat) (M : Option Addr) (m d : Nat) (zs : List Int) (ms : List P2) (id x most : Int) (w : World) (h : Bat w A n c M m d zs ms) (hid : wf64 id) (hn : n ≤ 1000) (hm : m ≤ 1000)
    {y : Bool} {zs' : List Int} {ms' : List P2} {n' m' : Nat} (e1 : addY zs x most = y) (e2 : addA zs x most = zs') (e3 : addM zs ms id x most = ms') (e4 : zs'.length = n') (e5 : ms'.length = m') :
    Calls Try.prog 31 #[batV A n c M m d, .int .i64 id, .int .i64 x, .int .i64 most] w fun r w' => ∃ A' c' M' d', r = .returned (.tuple #[batV A' n' c' M' m' d', .bool y]) ∧ Bat w' A' n' c' M' m' d' zs' ms' ∧ (Fresh w.heap.size A' ∧ Fresh w.heap.size M') ∧ Below w.heap.size w w' := by
  refine (badd_any A n c M m d zs ms id x most w h hid hn hm).mono ?_
  rintro r w' ⟨A', n2, c', M', m2, d', rfl, hb, hfr, hl⟩
  rw [e2, e3] at hb
  have h1 := hb.alen
  have h2 := hb.mlen
  obtain rfl : n' = n2 := by omega
  obtain rfl : m' = m2 := by omega
  rw [e1]
  exact ⟨A', c', M', d', rfl, hb, hfr, hl⟩
theorem split_is (A : Option Addr) (n c : Nat) (M : Option Addr) (m d : Nat) (zs : List Int) (ms : List P2) (B : Option Addr) (k e : Nat) (vs : List Int) (w : World) (h : Bat w A n c M m d zs ms) (hv : RowR irec w B k vs) (hm : m ≤ 1000)
    {y : Bool} {ps : List P2} {q : Nat} (e1 : splitY zs ms vs = y) (e2 : splitL zs ms vs = ps) (e3 : ps.length = q) :
    Calls Try.prog 34 #[batV A n c M m d, .slice B k e] w fun r w' => ∃ P f, r = .returned (.tuple #[.slice P q f, .bool y]) ∧ RowR prec w' P q ps ∧ q ≤ f ∧ Below w.heap.size w w' := by
  refine (bsplit_any A n c M m d zs ms B k e vs w h hv hm).mono ?_
  rintro r w' ⟨P, q2, f, rfl, hr, hq, hl⟩
  rw [e2] at hr
  have h1 := hr.1
  obtain rfl : q = q2 := by omega
  rw [e1]
  exact ⟨P, f, rfl, hr, hq, hl⟩


theorem wf0 : wf64 0 := wf64_lit (by decide) (by decide)
theorem wf1 : wf64 1 := wf64_lit (by decide) (by decide)
theorem wf2 : wf64 2 := wf64_lit (by decide) (by decide)
theorem wf3 : wf64 3 := wf64_lit (by decide) (by decide)
theorem wf4 : wf64 4 := wf64_lit (by decide) (by decide)

set_option maxRecDepth 100000 in
set_option maxHeartbeats 4000000 in
theorem awake13_any (w : World) : Calls Try.prog 29 #[] w fun r w' => r = .returned (.bool true) ∧ Below w.heap.size w w' := by
  go_enter Try.func29, Try.ntmps29
  go_wp2_with fail
  refine (bone_any 1 5 wf1 w).mono ?_
  rintro r w1 ⟨A1, c1, M1, d1, rfl, b1, _, l1⟩
  have BT := Lib.hid b1
  have LW := Lib.hid l1
  clear b1 l1
  go_wp2_with fail
  have k1 := heap_alloc_at w1 (bobj 34 A1 1 c1 M1 1 d1)
  have K := Lib.hid k1
  have l1 := LW.out.alloc LW.out.size (bobj 34 A1 1 c1 M1 1 d1)
  have LX := Lib.hid l1
  have b1 := BT.out.below (below_alloc w1 (bobj 34 A1 1 c1 M1 1 d1))
  have BX := Lib.hid b1
  have G : Hid (w.heap.size ≤ w1.heap.size) := Lib.hid LW.out.size
  clear k1 l1 b1 LW BT
  generalize w1.alloc (bobj 34 A1 1 c1 M1 1 d1) = v1 at *
  refine (add_is A1 1 c1 M1 1 d1 [5] [⟨1, 0⟩] 2 7 2 v1 BX.out wf2 (by decide) (by decide) (y := true) (zs' := [5, 7]) (ms' := [⟨1, 0⟩, ⟨2, 1⟩]) (n' := 2) (m' := 2) (by decide) (by decide) (by decide) rfl rfl).mono ?_
  rintro r w2 ⟨A2, c2, M2, d2, rfl, b2, _, l2⟩
  have k2 := kb_below K.out l2
  have K2 := Lib.hid k2
  have B2 := Lib.hid b2
  have L2 := Lib.hid (LX.out.trans (l2.mono LX.out.size))
  have E2 := Lib.hid (BX.out.below l2)
  clear k2 b2 l2 K BX LX
  go_wp2_with (first
    | (refine wpList_store_agg rfl 34 _ _ rfl w1.heap.size [.slice A1 1 c1, .slice M1 1 d1] [.slice A2 2 c2, .slice M2 2 d2] rfl rfl ?hz rfl sizeB (onesB _ _ _ _ _ _) ?_; (case hz => exact K2.out); intro v2 k3 f3 _;
       have K := Lib.hid k3; have LX := Lib.hid (L2.out.trans (f3.below L2.out.size (fun j hj e => by have := G.out; rw [e] at hj; omega))); have BX := Lib.hid (B2.out.stay f3 K2.out); obtain ⟨y0, y1⟩ := bobj_cells k3; clear k3 f3 K2 L2 B2 E2)
    | fail)
  refine (add_is A2 2 c2 M2 2 d2 [5, 7] [⟨1, 0⟩, ⟨2, 1⟩] 3 5 2 v2 BX.out wf3 (by decide) (by decide) (y := true) (zs' := [5, 7]) (ms' := [⟨1, 0⟩, ⟨2, 1⟩, ⟨3, 0⟩]) (n' := 2) (m' := 3) (by decide) (by decide) (by decide) rfl rfl).mono ?_
  rintro r w3 ⟨A3, c3, M3, d3, rfl, b2, _, l2⟩
  have k2 := kb_below K.out l2
  have K2 := Lib.hid k2
  have B2 := Lib.hid b2
  have L2 := Lib.hid (LX.out.trans (l2.mono LX.out.size))
  have E2 := Lib.hid (BX.out.below l2)
  clear k2 b2 l2 K BX LX
  go_wp2_with (first
    | (refine wpList_store_agg rfl 34 _ _ rfl w1.heap.size [.slice A2 2 c2, .slice M2 2 d2] [.slice A3 2 c3, .slice M3 3 d3] rfl rfl ?hz rfl sizeB (onesB _ _ _ _ _ _) ?_; (case hz => exact K2.out); intro v3 k3 f3 _;
       have K := Lib.hid k3; have LX := Lib.hid (L2.out.trans (f3.below L2.out.size (fun j hj e => by have := G.out; rw [e] at hj; omega))); have BX := Lib.hid (B2.out.stay f3 K2.out); obtain ⟨y0, y1⟩ := bobj_cells k3; clear k3 f3 K2 L2 B2 E2)
    | fail)
  refine (add_is A3 2 c3 M3 3 d3 [5, 7] [⟨1, 0⟩, ⟨2, 1⟩, ⟨3, 0⟩] 4 9 2 v3 BX.out wf4 (by decide) (by decide) (y := false) (zs' := [5, 7]) (ms' := [⟨1, 0⟩, ⟨2, 1⟩, ⟨3, 0⟩]) (n' := 2) (m' := 3) (by decide) (by decide) (by decide) rfl rfl).mono ?_
  rintro r w4 ⟨A4, c4, M4, d4, rfl, b2, _, l2⟩
  have k2 := kb_below K.out l2
  have K2 := Lib.hid k2
  have L2 := Lib.hid (LX.out.trans (l2.mono LX.out.size))
  have E2 := Lib.hid (BX.out.below l2)
  clear k2 b2 l2 K BX LX
  obtain ⟨z0, z1⟩ := bobj_cells (kb_alloc K2.out (bobj 34 A4 2 c4 M4 3 d4))
  obtain ⟨W, hW, hbW, _, _, hszW⟩ := two_new w4 (bobj 34 A4 2 c4 M4 3 d4) (.cells #[.int .i64 50, .int .i64 70] 3)
  have rv := RowR.new (R := irec) (w4.alloc (bobj 34 A4 2 c4 M4 3 d4)) [50, 70] 3 (n := 2) (cs := #[.int .i64 50, .int .i64 70]) rfl rfl (by decide)
  rw [hW, show (w4.alloc (bobj 34 A4 2 c4 M4 3 d4)).heap.size = w4.heap.size + 1 by simp] at rv
  have HW := Lib.hid hW
  have RV := Lib.hid rv
  have BW := Lib.hid hbW
  clear hW rv hbW hszW
  go_wp2_with fail
  rw [HW.out]
  refine (split_is A3 2 c3 M3 3 d3 [5, 7] [⟨1, 0⟩, ⟨2, 1⟩, ⟨3, 0⟩] (some ⟨w4.heap.size + 1, 0, none⟩) 2 2 [50, 70] W (E2.out.below BW.out) RV.out (by decide) (y := true) (ps := [⟨1, 50⟩, ⟨2, 70⟩, ⟨3, 50⟩]) (q := 3) (by decide) (by decide) rfl).mono ?_
  rintro r w5 ⟨P5, f5, rfl, r5, hq5, b5⟩
  have t5 := BW.out.trans (b5.mono BW.out.size)
  obtain ⟨u0, u1⟩ := bobj_cells (kb_below K2.out t5)
  obtain ⟨pb, po, px, rfl, hpx, e0, e1⟩ := r5.pair_at (i := 2) (by decide)
  obtain rfl : px = ⟨3, 50⟩ := by simpa using hpx.symm
  have e0' : w5.cell? ⟨pb, po + 4, none⟩ = some (.int .i64 3) := e0
  have e1' : w5.cell? ⟨pb, po + 4 + 1, none⟩ = some (.int .i64 50) := e1
  have K5 := Lib.hid (kb_below K2.out t5)
  have L5 := Lib.hid (L2.out.trans (t5.mono L2.out.size))
  have E5 := Lib.hid (E2.out.below t5)
  clear z0 z1 K2 L2 E2 t5 b5 BW HW RV r5 hpx e0 e1
  go_wp2_with fail
  refine (bfull_any A3 2 c3 M3 3 d3 2 w5).mono ?_
  rintro r w6 ⟨rfl, b6⟩
  obtain ⟨s0, s1⟩ := bobj_cells (kb_below K5.out b6)
  have L6 := Lib.hid (L5.out.trans (b6.mono L5.out.size))
  have E6 := Lib.hid (E5.out.below b6)
  clear u0 u1 e0' e1' K5 L5 E5 b6
  go_wp2_with fail
  refine (blead_any A3 2 c3 M3 3 d3 [5, 7] [⟨1, 0⟩, ⟨2, 1⟩, ⟨3, 0⟩] w6 E6.out).mono ?_
  rw [show leadL [⟨1, 0⟩, ⟨2, 1⟩, ⟨3, 0⟩] = 1 from rfl]
  rintro r w7 ⟨rfl, b7⟩
  have L7 := Lib.hid (L6.out.trans (b7.mono L6.out.size))
  clear s0 s1 b7 L6 E6
  go_wp2
  go_ret
  exact ⟨rfl, L7.out⟩
end Go.Proofs.Ytpfmjocpgnoepaa
