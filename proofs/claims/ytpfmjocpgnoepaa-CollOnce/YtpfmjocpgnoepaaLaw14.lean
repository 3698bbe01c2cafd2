/- Layer 14: coll's calls with their answers as parameters; awake. Written by wip/tools/gen_law14.py. -/
import Derived.Test.YtpfmjocpgnoepaaColAdd
namespace Go.Proofs.Ytpfmjocpgnoepaa
set_option linter.unusedVariables false
open Go.ChangeShapes Go.WideShapes Go.ChangeAt Go.RowKit

theorem carry {w w' : World} {b g : Nat} {o : Obj} (f : Frm (· = b) w w') (h : w.heap[g]? = some o) (hne : g ≠ b) : w'.heap[g]? = some o := (f.block g (heap_lt h) hne).trans h
/-- A step that was told, by its cells. -/
abbrev stepC (o r : Bool) (E : Int) (A : Option Addr) (n c : Nat) (M : Option Addr) (m d : Nat) : Value := .agg #[.bool o, .bool r, .int .u64 E, .slice A n c, .slice M m d]
abbrev stepO (o r : Bool) (E : Int) (A : Option Addr) (n c : Nat) (M : Option Addr) (m d : Nat) : Obj := .cells #[.bool o, .bool r, .int .u64 E, .slice A n c, .slice M m d] 93
theorem cadd_is (b : Nat) (S : CO) (now id x : Int) (w : World) (h : Col w b S) (hid : wf64 id) (hn : S.zs.length ≤ 1000) (hm : S.ms.length ≤ 1000) (hw0 : 0 ≤ S.win) (hw1 : S.win ≤ 18446744073709551615) (ht0 : 0 ≤ now) (ht1 : now ≤ 18446744073709551615)
    {S' : CO} {y z : Bool} {E : Int} {zs : List Int} {ms : List P2} {n m : Nat} (e1 : (!S.opn) = y) (e2 : S.full1 x = z) (e3 : (S.step now id x).due = E) (e4 : S.next now id x = S') (e5 : (S.step now id x).zs = zs) (e6 : (S.step now id x).ms = ms) (e7 : zs.length = n) (e8 : ms.length = m) :
    Calls Try.prog 46 #[.pointer (some ⟨b, 0, none⟩), .int .u64 now, .int .i64 id, .int .i64 x] w fun r w' => ∃ A c M d, r = .returned (stepC y z E A n c M m d) ∧ Col w' b S' ∧ Bat w' A n c M m d zs ms ∧ (Fresh (b + 1) A ∧ Fresh (b + 1) M) ∧ Frm (· = b) w w' := by
  refine (add_col b S now id x w h hid hn hm hw0 hw1 ht0 ht1).mono ?_
  rintro r w' ⟨A, n2, c, M, m2, d, rfl, hc, hb, hf, hr⟩
  rw [e4] at hc
  rw [e5, e6] at hb
  have h1 := hb.alen
  have h2 := hb.mlen
  obtain rfl : n = n2 := by omega
  obtain rfl : m = m2 := by omega
  rw [e1, e2, e3]
  exact ⟨A, c, M, d, rfl, hc, hb, hf, hr⟩
theorem cexp_is (b : Nat) (S : CO) (now : Int) (w : World) (h : Col w b S) {S' : CO} {y : Bool} {zs : List Int} {ms : List P2} {n m : Nat} (e1 : S.exp now = y) (e4 : S.wait now = S') (e5 : (if y then S.zs else []) = zs) (e6 : (if y then S.ms else []) = ms) (e7 : zs.length = n) (e8 : ms.length = m) :
    Calls Try.prog 49 #[.pointer (some ⟨b, 0, none⟩), .int .u64 now] w fun r w' => ∃ A c M d, r = .returned (.tuple #[batV A n c M m d, .bool y]) ∧ Col w' b S' ∧ Bat w' A n c M m d zs ms ∧ (Fresh (b + 1) A ∧ Fresh (b + 1) M) ∧ Frm (· = b) w w' := by
  refine (expire_col b S now w h).mono ?_
  rintro r w' ⟨A, n2, c, M, m2, d, rfl, hc, hb, hf, hr⟩
  rw [e4] at hc
  rw [e1, e5, e6] at hb
  have h1 := hb.alen
  have h2 := hb.mlen
  obtain rfl : n = n2 := by omega
  obtain rfl : m = m2 := by omega
  rw [e1]
  exact ⟨A, c, M, d, rfl, hc, hb, hf, hr⟩
theorem wfk1 : wf64 1 := wf64_lit (by decide) (by decide)
theorem wfk2 : wf64 2 := wf64_lit (by decide) (by decide)
theorem wfk3 : wf64 3 := wf64_lit (by decide) (by decide)
theorem wfk4 : wf64 4 := wf64_lit (by decide) (by decide)

set_option maxRecDepth 100000 in
set_option maxHeartbeats 4000000 in
theorem awake14_any (w : World) : Calls Try.prog 42 #[] w fun r w' => r = .returned (.bool true) ∧ Below w.heap.size w w' := by
  go_enter Try.func42, Try.ntmps42
  go_wp2_with fail
  refine (new_col 10 2 w (by decide) rfl).mono ?_
  rintro r v0 ⟨rfl, h, l⟩
  have C := Lib.hid h
  have L := Lib.hid l
  have GE : Hid (w.heap.size < v0.heap.size) := Lib.hid (by obtain ⟨_, _, _, _, _, _, h⟩ := h; exact h.lt)
  clear h l
  go_wp2_with fail
  refine (cadd_is w.heap.size ⟨10, 2, [], [], 0⟩ 5 1 7 v0 C.out wfk1 (by decide) (by decide) (by decide) (by decide) (by decide) (by decide) (y := true) (z := false) (E := 15) (S' := ⟨10, 2, [7], [⟨1, 0⟩], 15⟩) (zs := []) (ms := []) (n := 0) (m := 0) rfl rfl rfl rfl rfl rfl rfl rfl).mono ?_
  rintro r u0 ⟨A0, c0, M0, d0, rfl, h, hb, _, f⟩
  have C' := Lib.hid (h.below (below_alloc u0 (stepO true false 15 A0 0 c0 M0 0 d0)))
  have f' := f.then_below (below_alloc u0 (stepO true false 15 A0 0 c0 M0 0 d0))
  have L' := Lib.hid (L.out.trans (f'.below (Nat.le_of_lt GE.out) (fun j hj e => by omega)))
  have K0 := Lib.hid (heap_alloc_at u0 (stepO true false 15 A0 0 c0 M0 0 d0))
  have NK0 : Hid (u0.heap.size ≠ w.heap.size) := Lib.hid (by have := f.size; have := GE.out; omega)
  have GE' : Hid (w.heap.size < (u0.alloc (stepO true false 15 A0 0 c0 M0 0 d0)).heap.size) := Lib.hid (Nat.lt_of_lt_of_le GE.out f'.size)
  clear C L GE h hb f f' 
  have C := C'
  have L := L'
  have GE := GE'
  clear C' L' GE' 
  go_wp2_with fail
  generalize u0.alloc (stepO true false 15 A0 0 c0 M0 0 d0) = v1 at *
  refine (cadd_is w.heap.size ⟨10, 2, [7], [⟨1, 0⟩], 15⟩ 6 2 7 v1 C.out wfk2 (by decide) (by decide) (by decide) (by decide) (by decide) (by decide) (y := false) (z := false) (E := 0) (S' := ⟨10, 2, [7], [⟨1, 0⟩, ⟨2, 0⟩], 15⟩) (zs := []) (ms := []) (n := 0) (m := 0) rfl rfl rfl rfl rfl rfl rfl rfl).mono ?_
  rintro r u1 ⟨A1, c1, M1, d1, rfl, h, hb, _, f⟩
  have C' := Lib.hid (h.below (below_alloc u1 (stepO false false 0 A1 0 c1 M1 0 d1)))
  have f' := f.then_below (below_alloc u1 (stepO false false 0 A1 0 c1 M1 0 d1))
  have K0' := Lib.hid (carry f' K0.out NK0.out)
  have L' := Lib.hid (L.out.trans (f'.below (Nat.le_of_lt GE.out) (fun j hj e => by omega)))
  have K1 := Lib.hid (heap_alloc_at u1 (stepO false false 0 A1 0 c1 M1 0 d1))
  have NK1 : Hid (u1.heap.size ≠ w.heap.size) := Lib.hid (by have := f.size; have := GE.out; omega)
  have GE' : Hid (w.heap.size < (u1.alloc (stepO false false 0 A1 0 c1 M1 0 d1)).heap.size) := Lib.hid (Nat.lt_of_lt_of_le GE.out f'.size)
  clear C L GE h hb f f' K0
  have C := C'
  have L := L'
  have GE := GE'
  have K0 := K0'
  clear C' L' GE' K0'
  go_wp2_with fail
  generalize u1.alloc (stepO false false 0 A1 0 c1 M1 0 d1) = v2 at *
  refine (cexp_is w.heap.size ⟨10, 2, [7], [⟨1, 0⟩, ⟨2, 0⟩], 15⟩ 14 v2 C.out (y := false) (S' := ⟨10, 2, [7], [⟨1, 0⟩, ⟨2, 0⟩], 15⟩) (zs := []) (ms := []) (n := 0) (m := 0) rfl rfl rfl rfl rfl rfl).mono ?_
  rintro r u2 ⟨A2, c2, M2, d2, rfl, h, hb, _, f⟩
  have C' := Lib.hid (h.below (below_alloc u2 (bobj 34 A2 0 c2 M2 0 d2)))
  have f' := f.then_below (below_alloc u2 (bobj 34 A2 0 c2 M2 0 d2))
  have K0' := Lib.hid (carry f' K0.out NK0.out)
  have K1' := Lib.hid (carry f' K1.out NK1.out)
  have L' := Lib.hid (L.out.trans (f'.below (Nat.le_of_lt GE.out) (fun j hj e => by omega)))
  have K2 := Lib.hid (heap_alloc_at u2 (bobj 34 A2 0 c2 M2 0 d2))
  have NK2 : Hid (u2.heap.size ≠ w.heap.size) := Lib.hid (by have := f.size; have := GE.out; omega)
  have GE' : Hid (w.heap.size < (u2.alloc (bobj 34 A2 0 c2 M2 0 d2)).heap.size) := Lib.hid (Nat.lt_of_lt_of_le GE.out f'.size)
  clear C L GE h hb f f' K0 K1
  have C := C'
  have L := L'
  have GE := GE'
  have K0 := K0'
  have K1 := K1'
  clear C' L' GE' K0' K1'
  go_wp2_with fail
  generalize u2.alloc (bobj 34 A2 0 c2 M2 0 d2) = v3 at *
  refine (cadd_is w.heap.size ⟨10, 2, [7], [⟨1, 0⟩, ⟨2, 0⟩], 15⟩ 7 3 8 v3 C.out wfk3 (by decide) (by decide) (by decide) (by decide) (by decide) (by decide) (y := false) (z := true) (E := 0) (S' := ⟨10, 2, [], [], 0⟩) (zs := [7, 8]) (ms := [⟨1, 0⟩, ⟨2, 0⟩, ⟨3, 1⟩]) (n := 2) (m := 3) rfl rfl rfl rfl rfl rfl rfl rfl).mono ?_
  rintro r u3 ⟨A3, c3, M3, d3, rfl, h, hb, _, f⟩
  have C' := Lib.hid (h.below (below_alloc u3 (stepO false true 0 A3 2 c3 M3 3 d3)))
  have f' := f.then_below (below_alloc u3 (stepO false true 0 A3 2 c3 M3 3 d3))
  have K0' := Lib.hid (carry f' K0.out NK0.out)
  have K1' := Lib.hid (carry f' K1.out NK1.out)
  have K2' := Lib.hid (carry f' K2.out NK2.out)
  have L' := Lib.hid (L.out.trans (f'.below (Nat.le_of_lt GE.out) (fun j hj e => by omega)))
  have K3 := Lib.hid (heap_alloc_at u3 (stepO false true 0 A3 2 c3 M3 3 d3))
  have NK3 : Hid (u3.heap.size ≠ w.heap.size) := Lib.hid (by have := f.size; have := GE.out; omega)
  have GE' : Hid (w.heap.size < (u3.alloc (stepO false true 0 A3 2 c3 M3 3 d3)).heap.size) := Lib.hid (Nat.lt_of_lt_of_le GE.out f'.size)
  clear C L GE h hb f f' K0 K1 K2
  have C := C'
  have L := L'
  have GE := GE'
  have K0 := K0'
  have K1 := K1'
  have K2 := K2'
  clear C' L' GE' K0' K1' K2'
  go_wp2_with fail
  generalize u3.alloc (stepO false true 0 A3 2 c3 M3 3 d3) = v4 at *
  refine (cadd_is w.heap.size ⟨10, 2, [], [], 0⟩ 8 4 9 v4 C.out wfk4 (by decide) (by decide) (by decide) (by decide) (by decide) (by decide) (y := true) (z := false) (E := 18) (S' := ⟨10, 2, [9], [⟨4, 0⟩], 18⟩) (zs := []) (ms := []) (n := 0) (m := 0) rfl rfl rfl rfl rfl rfl rfl rfl).mono ?_
  rintro r u4 ⟨A4, c4, M4, d4, rfl, h, hb, _, f⟩
  have C' := Lib.hid (h.below (below_alloc u4 (stepO true false 18 A4 0 c4 M4 0 d4)))
  have f' := f.then_below (below_alloc u4 (stepO true false 18 A4 0 c4 M4 0 d4))
  have K0' := Lib.hid (carry f' K0.out NK0.out)
  have K1' := Lib.hid (carry f' K1.out NK1.out)
  have K2' := Lib.hid (carry f' K2.out NK2.out)
  have K3' := Lib.hid (carry f' K3.out NK3.out)
  have L' := Lib.hid (L.out.trans (f'.below (Nat.le_of_lt GE.out) (fun j hj e => by omega)))
  have K4 := Lib.hid (heap_alloc_at u4 (stepO true false 18 A4 0 c4 M4 0 d4))
  have NK4 : Hid (u4.heap.size ≠ w.heap.size) := Lib.hid (by have := f.size; have := GE.out; omega)
  have GE' : Hid (w.heap.size < (u4.alloc (stepO true false 18 A4 0 c4 M4 0 d4)).heap.size) := Lib.hid (Nat.lt_of_lt_of_le GE.out f'.size)
  clear C L GE h hb f f' K0 K1 K2 K3
  have C := C'
  have L := L'
  have GE := GE'
  have K0 := K0'
  have K1 := K1'
  have K2 := K2'
  have K3 := K3'
  clear C' L' GE' K0' K1' K2' K3'
  go_wp2_with fail
  generalize u4.alloc (stepO true false 18 A4 0 c4 M4 0 d4) = v5 at *
  refine (cexp_is w.heap.size ⟨10, 2, [9], [⟨4, 0⟩], 18⟩ 18 v5 C.out (y := true) (S' := ⟨10, 2, [], [], 0⟩) (zs := [9]) (ms := [⟨4, 0⟩]) (n := 1) (m := 1) rfl rfl rfl rfl rfl rfl).mono ?_
  rintro r u5 ⟨A5, c5, M5, d5, rfl, h, hb, _, f⟩
  have C' := Lib.hid (h.below (below_alloc u5 (bobj 34 A5 1 c5 M5 1 d5)))
  have f' := f.then_below (below_alloc u5 (bobj 34 A5 1 c5 M5 1 d5))
  have K0' := Lib.hid (carry f' K0.out NK0.out)
  have K1' := Lib.hid (carry f' K1.out NK1.out)
  have K2' := Lib.hid (carry f' K2.out NK2.out)
  have K3' := Lib.hid (carry f' K3.out NK3.out)
  have K4' := Lib.hid (carry f' K4.out NK4.out)
  have L' := Lib.hid (L.out.trans (f'.below (Nat.le_of_lt GE.out) (fun j hj e => by omega)))
  have K5 := Lib.hid (heap_alloc_at u5 (bobj 34 A5 1 c5 M5 1 d5))
  have NK5 : Hid (u5.heap.size ≠ w.heap.size) := Lib.hid (by have := f.size; have := GE.out; omega)
  have GE' : Hid (w.heap.size < (u5.alloc (bobj 34 A5 1 c5 M5 1 d5)).heap.size) := Lib.hid (Nat.lt_of_lt_of_le GE.out f'.size)
  have HB := Lib.hid (hb.below (below_alloc u5 (bobj 34 A5 1 c5 M5 1 d5)))
  clear C L GE h hb f f' K0 K1 K2 K3 K4
  have C := C'
  have L := L'
  have GE := GE'
  have K0 := K0'
  have K1 := K1'
  have K2 := K2'
  have K3 := K3'
  have K4 := K4'
  clear C' L' GE' K0' K1' K2' K3' K4'
  have x0 := cell_of K0.out 0
  have x1 := cell_of K0.out 1
  have x2 := cell_of K0.out 2
  have x3 := cell_of K1.out 0
  have x4 := cell_of K1.out 1
  have x5 := cell_of K3.out 1
  have x6 := cell_of K3.out 4
  have x7 := cell_of K4.out 0
  obtain ⟨x8, x9⟩ := bobj_cells K5.out
  have x0' : (u5.alloc (bobj 34 A5 1 c5 M5 1 d5)).cell? ⟨u0.heap.size, 0, none⟩ = some (.bool true) := x0
  have x1' : (u5.alloc (bobj 34 A5 1 c5 M5 1 d5)).cell? ⟨u0.heap.size, 1, none⟩ = some (.bool false) := x1
  have x2' : (u5.alloc (bobj 34 A5 1 c5 M5 1 d5)).cell? ⟨u0.heap.size, 2, none⟩ = some (.int .u64 15) := x2
  have x3' : (u5.alloc (bobj 34 A5 1 c5 M5 1 d5)).cell? ⟨u1.heap.size, 0, none⟩ = some (.bool false) := x3
  have x4' : (u5.alloc (bobj 34 A5 1 c5 M5 1 d5)).cell? ⟨u1.heap.size, 1, none⟩ = some (.bool false) := x4
  have x5' : (u5.alloc (bobj 34 A5 1 c5 M5 1 d5)).cell? ⟨u3.heap.size, 1, none⟩ = some (.bool true) := x5
  have x6' : (u5.alloc (bobj 34 A5 1 c5 M5 1 d5)).cell? ⟨u3.heap.size, 4, none⟩ = some (.slice M3 3 d3) := x6
  have x7' : (u5.alloc (bobj 34 A5 1 c5 M5 1 d5)).cell? ⟨u4.heap.size, 0, none⟩ = some (.bool true) := x7
  clear x0 x1 x2 x3 x4 x5 x6 x7 K0 K1 K2 K3 K4 K5 NK0 NK1 NK2 NK3 NK4 NK5
  go_wp2_with fail
  refine (blead_any A5 1 c5 M5 1 d5 [9] [⟨4, 0⟩] (u5.alloc (bobj 34 A5 1 c5 M5 1 d5)) HB.out).mono ?_
  rw [show leadL [⟨4, 0⟩] = 4 from rfl]
  rintro r v7 ⟨rfl, b7⟩
  have C7 := C.out.below b7
  have L7 := Lib.hid (L.out.trans (b7.mono L.out.size))
  have HC := Lib.hid C7
  clear b7 C L HB C7 x0' x1' x2' x3' x4' x5' x6' x7' x8 x9 GE
  go_wp2_with fail
  refine (open_col w.heap.size ⟨10, 2, [], [], 0⟩ v7 HC.out).mono ?_
  rw [show CO.opn ⟨10, 2, [], [], 0⟩ = false from rfl]
  rintro r v8 ⟨rfl, h8⟩
  rw [← h8]
  clear h8 v8 HC
  go_wp2
  go_ret
  exact ⟨rfl, L7.out⟩
end Go.Proofs.Ytpfmjocpgnoepaa
