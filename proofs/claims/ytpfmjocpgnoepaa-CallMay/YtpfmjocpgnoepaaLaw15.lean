/- Layer 15's laws: answers as parameters, a call's block cell by cell, awake. -/
import Derived.Test.YtpfmjocpgnoepaaCal2
import Derived.Test.YtpfmjocpgnoepaaRef15b
import Derived.Test.YtpfmjocpgnoepaaRef15c
import Derived.Test.YtpfmjocpgnoepaaOpen
namespace Go.Proofs.Ytpfmjocpgnoepaa
set_option linter.unusedVariables false
open Go.ChangeShapes Go.WideShapes Go.ChangeAt Go.RowKit

theorem kobj_cells {w : World} {g : Nat} {ty : TypeId} {A M : Option Addr} {n c m d : Nat} {K : CN} (h : w.heap[g]? = some (vobj ty (kvals A n c M m d K))) :
    w.cell? ⟨g, 0, none⟩ = some (.slice A n c) ∧ w.cell? ⟨g, 1, none⟩ = some (.slice M m d) ∧ w.cell? ⟨g, 2, none⟩ = some (.int .i64 K.st) ∧ w.cell? ⟨g, 3, none⟩ = some (.int .i64 K.sp) ∧ w.cell? ⟨g, 4, none⟩ = some (.int .i64 K.ca) ∧ w.cell? ⟨g, 5, none⟩ = some (.int .u64 K.tm) :=
  ⟨vobj_cell h rfl, vobj_cell h rfl, vobj_cell h rfl, vobj_cell h rfl, vobj_cell h rfl, vobj_cell h rfl⟩
/-- An argument: the document's call. -/
theorem call_in {w : World} {c : Array Value} (h : Shp w [.row [.int .i64] 8, .row [.int .i64, .int .i64] 16, .lit (.int .i64), .lit (.int .i64), .lit (.int .i64), .lit (.int .u64)] c.toList) :
    ∃ (A : Option Addr) (n k : Nat) (M : Option Addr) (m d : Nat) (K : CN) (zs : List Int) (ms : List P2), c = #[.slice A n k, .slice M m d, .int .i64 K.st, .int .i64 K.sp, .int .i64 K.ca, .int .u64 K.tm] ∧ Bat w A n k M m d zs ms ∧ K.Fits ∧ (∀ z ∈ zs, wf64 z) := by
  obtain ⟨l⟩ := c
  obtain _ | ⟨v0, l⟩ := l
  · exact h.elim
  obtain ⟨⟨A, n, k, D, e0, h0⟩, h⟩ := h
  obtain _ | ⟨v1, l⟩ := l
  · exact h.elim
  obtain ⟨⟨M, m, d, D', e1, h1⟩, h⟩ := h
  obtain _ | ⟨v2, l⟩ := l
  · exact h.elim
  obtain ⟨⟨x, e2, h2⟩, h⟩ := h
  obtain _ | ⟨v3, l⟩ := l
  · exact h.elim
  obtain ⟨⟨y, e3, h3⟩, h⟩ := h
  obtain _ | ⟨v4, l⟩ := l
  · exact h.elim
  obtain ⟨⟨z, e4, h4⟩, h⟩ := h
  obtain _ | ⟨v5, l⟩ := l
  · exact h.elim
  obtain ⟨⟨t, e5, h5⟩, h⟩ := h
  obtain _ | ⟨v6, l⟩ := l
  · subst e0 e1 e2 e3 e4 e5
    obtain ⟨zs, r0, f0, l0, _⟩ := ints_in h0
    obtain ⟨ms, r1, f1, l1, _⟩ := pairs_in h1
    exact ⟨A, n, k, M, m, d, ⟨x, y, z, t⟩, zs, ms, rfl, ⟨r0, r1, l0, l1, f1⟩, ⟨bounds_i64 h2, bounds_i64 h3, bounds_i64 h4, wf_u64 h5⟩, f0⟩
  · exact h.elim
section
variable (A : Option Addr) (n c : Nat) (M : Option Addr) (m d : Nat) (K K' : CN) (b : Bool) (zs : List Int) (ms : List P2) (w : World)
theorem kbegin_is (t : Int) (h : Bat w A n c M m d zs ms) (hn : n ≤ 1000) (hm : m ≤ 1000) :
    Calls Try.prog 22 #[batV A n c M m d, .int .u64 t] w fun r w' => ∃ A' c' M' d', r = .returned (callV A' n c' M' m d' ⟨1, 0, 0, t⟩) ∧ Bat w' A' n c' M' m d' zs ms ∧ (Fresh w.heap.size A' ∧ Fresh w.heap.size M') ∧ Below w.heap.size w w' := kbegin_any A n c M m d t zs ms w h hn hm
theorem krun_is (hK : K.run = K') (hb : K.runs = b) (h : Bat w A n c M m d zs ms) (hn : n ≤ 1000) (hm : m ≤ 1000) :
    Calls Try.prog 14 #[callV A n c M m d K] w fun r w' => ∃ A' c' M' d', r = .returned (.tuple #[callV A' n c' M' m d' K', .bool b]) ∧ Bat w' A' n c' M' m d' zs ms ∧ (Fresh w.heap.size A' ∧ Fresh w.heap.size M') ∧ Below w.heap.size w w' := by
  subst hK hb; exact krun_any A n c M m d K zs ms w h hn hm
theorem kend_is (hK : K.fin = K') (hb : K.ends = b) (h : Bat w A n c M m d zs ms) (hn : n ≤ 1000) (hm : m ≤ 1000) :
    Calls Try.prog 19 #[callV A n c M m d K] w fun r w' => ∃ A' c' M' d', r = .returned (.tuple #[callV A' n c' M' m d' K', .bool b]) ∧ Bat w' A' n c' M' m d' zs ms ∧ (Fresh w.heap.size A' ∧ Fresh w.heap.size M') ∧ Below w.heap.size w w' := by
  subst hK hb; exact kend_any A n c M m d K zs ms w h hn hm
theorem kfail_is (z k : Int) (hK : K.fail z k = K') (hb : K.fails k = b) (h : Bat w A n c M m d zs ms) (hn : n ≤ 1000) (hm : m ≤ 1000) (hsp : wf64 K.sp) (hk : wf64 k) :
    Calls Try.prog 17 #[callV A n c M m d K, .int .i64 z, .int .i64 k] w fun r w' => ∃ A' c' M' d', r = .returned (.tuple #[callV A' n c' M' m d' K', .bool b]) ∧ Bat w' A' n c' M' m d' zs ms ∧ (Fresh w.heap.size A' ∧ Fresh w.heap.size M') ∧ Below w.heap.size w w' := by
  subst hK hb; exact kfail_any A n c M m d K z k zs ms w h hn hm hsp hk
end

set_option maxRecDepth 100000 in
set_option maxHeartbeats 2000000 in
theorem awake15_any (w : World) : Calls Try.prog 12 #[] w fun r w' => r = .returned (.bool true) ∧ Below w.heap.size w w' := by
  go_enter Try.func12, Try.ntmps12
  go_wp2_with fail
  refine (bone_any 7 3 (wf64_lit (k := 7) (by decide) (by decide)) w).mono ?_
  rintro r w1 ⟨A1, c1, M1, d1, rfl, h1, _, b1⟩
  have H1 := Lib.hid h1
  have B1 := Lib.hid b1
  clear h1 b1
  go_wp2_with fail
  refine (kbegin_is A1 1 c1 M1 1 d1 _ _ w1 5 H1.out (by decide) (by decide)).mono ?_
  rintro r w2 ⟨A2, c2, M2, d2, rfl, h2, _, b2⟩
  have B2 := Lib.hid (B1.out.trans (b2.mono B1.out.size))
  have H2 := Lib.hid h2
  clear h2 b2 B1 H1
  go_wp2_with fail
  have K3 : Hid ((w2.alloc (.cells #[.slice A2 1 c2, .slice M2 1 d2, .int .i64 1, .int .i64 0, .int .i64 0, .int .u64 5] 36)).heap[w2.heap.size]? = some (kobj A2 1 c2 M2 1 d2 ⟨1, 0, 0, 5⟩)) := Lib.hid (heap_alloc_at w2 _)
  have B3 := Lib.hid (B2.out.alloc B2.out.size (.cells #[.slice A2 1 c2, .slice M2 1 d2, .int .i64 1, .int .i64 0, .int .i64 0, .int .u64 5] 36))
  have H3 := Lib.hid (H2.out.below (below_alloc w2 (.cells #[.slice A2 1 c2, .slice M2 1 d2, .int .i64 1, .int .i64 0, .int .i64 0, .int .u64 5] 36)))
  have S3 : Hid ((w2.alloc (.cells #[.slice A2 1 c2, .slice M2 1 d2, .int .i64 1, .int .i64 0, .int .i64 0, .int .u64 5] 36)).heap.size = w2.heap.size + 1) := Lib.hid (by simp)
  have G2 := Lib.hid B2.out.size
  clear B2 H2
  generalize w2.alloc (.cells #[.slice A2 1 c2, .slice M2 1 d2, .int .i64 1, .int .i64 0, .int .i64 0, .int .u64 5] 36) = w3 at *
  generalize w2.heap.size = g at *
  refine (krun_is A2 1 c2 M2 1 d2 ⟨1, 0, 0, 5⟩ ⟨2, 0, 0, 5⟩ true _ _ w3 rfl rfl H3.out (by decide) (by decide)).mono ?_
  rintro r w4 ⟨A4, c4, M4, d4, rfl, h4, ⟨fA4, fM4⟩, b4⟩
  have B4 := Lib.hid (B3.out.trans (b4.mono B3.out.size))
  have K4 := Lib.hid (kb_below K3.out b4)
  have H4 := Lib.hid h4
  have FA4 := Lib.hid fA4
  have FM4 := Lib.hid fM4
  clear h4 fA4 fM4 b4 B3 K3 H3
  go_wp2_with (first
    | (refine wpList_store_agg rfl 36 _ _ rfl g (kvals A2 1 c2 M2 1 d2 ⟨1, 0, 0, 5⟩) (kvals A4 1 c4 M4 1 d4 ⟨2, 0, 0, 5⟩) rfl rfl ?hz rfl sizeK (onesK _ _ _ _ _ _ _) ?_; (case hz => exact K4.out); intro w5 k5 f5 z5; clear z5;
       have K5 := Lib.hid k5; have F5 := Lib.hid f5; obtain ⟨x0, x1, x2, x3, x4, x5⟩ := kobj_cells k5; simp only at x2 x3 x4 x5; clear k5 f5))
  have H5 : Hid (Bat w5 A4 1 c4 M4 1 d4 [3] [⟨7, 0⟩]) := Lib.hid (H4.out.behind (FA4.out.mono (by have := S3.out; omega)) (FM4.out.mono (by have := S3.out; omega)) F5.out)
  have B5 : Hid (Below w.heap.size w w5) := Lib.hid (B4.out.trans (F5.out.below B4.out.size (fun j hj e => by have := G2.out; omega)))
  have G5 : Hid (g + 1 ≤ w5.heap.size) := Lib.hid (heap_lt K5.out)
  clear x0 x1 x2 x3 x4 x5 FA4 FM4 B4 K4 H4 F5 S3
  refine (kfail_is A4 1 c4 M4 1 d4 ⟨2, 0, 0, 5⟩ ⟨3, 1, 1, 5⟩ true _ _ w5 1 1 rfl rfl H5.out (by decide) (by decide) (wf64_lit (k := 0) (by decide) (by decide)) (wf64_lit (k := 1) (by decide) (by decide))).mono ?_
  rintro r w6 ⟨A6, c6, M6, d6, rfl, h6, ⟨fA6, fM6⟩, b6⟩
  have B6 := Lib.hid (B5.out.trans (b6.mono B5.out.size))
  have K6 := Lib.hid (kb_below K5.out b6)
  have H6 := Lib.hid h6
  have FA6 := Lib.hid fA6
  have FM6 := Lib.hid fM6
  clear h6 fA6 fM6 b6 B5 K5 H5
  go_wp2_with (first
    | (refine wpList_store_agg rfl 36 _ _ rfl g (kvals A4 1 c4 M4 1 d4 ⟨2, 0, 0, 5⟩) (kvals A6 1 c6 M6 1 d6 ⟨3, 1, 1, 5⟩) rfl rfl ?hz rfl sizeK (onesK _ _ _ _ _ _ _) ?_; (case hz => exact K6.out); intro w7 k7 f7 z7; clear z7;
       have K7 := Lib.hid k7; have F7 := Lib.hid f7; obtain ⟨x0, x1, x2, x3, x4, x5⟩ := kobj_cells k7; simp only at x2 x3 x4 x5; clear k7 f7))
  have H7 : Hid (Bat w7 A6 1 c6 M6 1 d6 [3] [⟨7, 0⟩]) := Lib.hid (H6.out.behind (FA6.out.mono G5.out) (FM6.out.mono G5.out) F7.out)
  have B7 : Hid (Below w.heap.size w w7) := Lib.hid (B6.out.trans (F7.out.below B6.out.size (fun j hj e => by have := G2.out; omega)))
  clear x0 x1 x2 x3 x4 x5 FA6 FM6 B6 K6 H6 F7 G5
  refine (kfail_is A6 1 c6 M6 1 d6 ⟨3, 1, 1, 5⟩ ⟨4, 1, 1, 5⟩ false _ _ w7 2 1 rfl rfl H7.out (by decide) (by decide) (wf64_lit (k := 1) (by decide) (by decide)) (wf64_lit (k := 1) (by decide) (by decide))).mono ?_
  rintro r w8 ⟨A8, c8, M8, d8, rfl, h8, _, b8⟩
  have B8 := Lib.hid (B7.out.trans (b8.mono B7.out.size))
  have K8 := Lib.hid (kb_below K7.out b8)
  have H8 := Lib.hid h8
  clear h8 b8 B7 K7 H7
  go_wp2_with fail
  have K9 : Hid ((w8.alloc (.cells #[.slice A8 1 c8, .slice M8 1 d8, .int .i64 4, .int .i64 1, .int .i64 1, .int .u64 5] 36)).heap[w8.heap.size]? = some (kobj A8 1 c8 M8 1 d8 ⟨4, 1, 1, 5⟩)) := Lib.hid (heap_alloc_at w8 _)
  have L9 : Hid (Below w8.heap.size w8 (w8.alloc (.cells #[.slice A8 1 c8, .slice M8 1 d8, .int .i64 4, .int .i64 1, .int .i64 1, .int .u64 5] 36))) := Lib.hid (below_alloc w8 _)
  generalize w8.alloc (.cells #[.slice A8 1 c8, .slice M8 1 d8, .int .i64 4, .int .i64 1, .int .i64 1, .int .u64 5] 36) = w9 at *
  generalize hg : w8.heap.size = g8 at *
  have X9 := Lib.hid (kb_below K8.out (by rw [hg]; exact L9.out))
  have B9 := Lib.hid (B8.out.trans (L9.out.mono (by rw [← hg]; exact B8.out.size)))
  have H9 := Lib.hid (H8.out.below (by rw [hg]; exact L9.out))
  clear hg K8 B8 H8 L9
  refine (kouts_any A8 1 c8 M8 1 d8 ⟨4, 1, 1, 5⟩ _ _ 4 none 0 0 [] 9 w9 H9.out (RowR.nil _) (by decide)).mono ?_
  rintro r w10 ⟨P, q, f, rfl, hr, b10⟩
  have hr' : RowR orec w10 P q [⟨7, 4, 1, 0, 9⟩] := hr
  obtain rfl : q = 1 := hr'.1.symm
  obtain ⟨ob, oo, x, rfl, hx, hrg⟩ := hr'.out (i := 0) (by decide)
  obtain rfl : x = ⟨7, 4, 1, 0, 9⟩ := (Option.some.inj hx).symm
  have o0 : w10.cell? ⟨ob, oo, none⟩ = some (.int .i64 7) := by have := hrg 0 _ rfl; simpa using this
  have o1 : w10.cell? ⟨ob, oo + 1, none⟩ = some (.int .i64 4) := by have := hrg 1 _ rfl; simpa using this
  have o2 : w10.cell? ⟨ob, oo + 2, none⟩ = some (.int .i64 1) := by have := hrg 2 _ rfl; simpa using this
  have o3 : w10.cell? ⟨ob, oo + 3, none⟩ = some (.int .i64 0) := by have := hrg 3 _ rfl; simpa using this
  have o4 : w10.cell? ⟨ob, oo + 4, none⟩ = some (.int .u64 9) := by have := hrg 4 _ rfl; simpa using this
  have hsame : ∀ wx, (Op.equalIn 10000 59 (.agg #[.int .i64 7, .int .i64 4, .int .i64 1, .int .i64 0, .int .u64 9]) (.agg #[.int .i64 7, .int .i64 4, .int .i64 1, .int .i64 0, .int .u64 9])).run Try.prog wx = .ok true wx := fun wx =>
    same_yes (P := Try.prog) (t := 59) (ks := outK) 8 (by decide) (by kernel_rfl) (by kernel_rfl) (by kernel_rfl) (by kernel_rfl) (xs := #[.int .i64 7, .int .i64 4, .int .i64 1, .int .i64 0, .int .u64 9])
      (show Flat outK [.int .i64 7, .int .i64 4, .int .i64 1, .int .i64 0, .int .u64 9] from ⟨⟨_, rfl, by decide⟩, ⟨_, rfl, by decide⟩, ⟨_, rfl, by decide⟩, ⟨_, rfl, by decide⟩, ⟨_, rfl, by decide⟩, trivial⟩) wx
  obtain ⟨x0, x1, x2, x3, x4, x5⟩ := kobj_cells (kb_below X9.out b10)
  obtain ⟨y0, y1, y2, y3, y4, y5⟩ := kobj_cells (kb_below K9.out b10)
  simp only at x2 x3 x4 x5 y2 y3 y4 y5
  have BA := Lib.hid (B9.out.trans (b10.mono B9.out.size))
  clear hr hr' hx hrg b10 B9 H9 X9 K9 x0 x1 x3 x4 x5 y0 y1 y3 y5
  go_wp2
  go_ret
  exact ⟨rfl, BA.out⟩
end Go.Proofs.Ytpfmjocpgnoepaa
