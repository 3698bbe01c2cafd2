/- Contracts of porpoiseref03: Due, Step. -/
import Derived.Test.YtgpebbopggmgbaaRef03
namespace Go.Proofs.Ytgpebbopggmgbaa
set_option linter.unusedVariables false
open Go.ChangeShapes Go.WideShapes Go.ChangeAt Go.RowKit

abbrev xobj (nw : Int) (A : Option Addr) (len cap : Nat) : Obj := .cells #[.int .u64 nw, .slice A len cap] 31
theorem kb_below {w w' : World} {j : Nat} {o : Obj} (h : w.heap[j]? = some o) (hb : Below w.heap.size w w') : w'.heap[j]? = some o := (hb.block j (heap_lt h)).trans h
theorem kb_alloc {w : World} {j : Nat} {o : Obj} (h : w.heap[j]? = some o) (o' : Obj) : (w.alloc o').heap[j]? = some o := (heap_alloc_lt (heap_lt h)).trans h
theorem xcells {w : World} {j : Nat} {nw : Int} {A : Option Addr} {len cap : Nat} (h : w.heap[j]? = some (xobj nw A len cap)) : w.cell? ⟨j, 0, none⟩ = some (.int .u64 nw) ∧ w.cell? ⟨j, 1, none⟩ = some (.slice A len cap) := ⟨by rw [cell_of h]; rfl, by rw [cell_of h]; rfl⟩

set_option maxHeartbeats 1000000 in
theorem rdue_any (A : Option Addr) (len cap : Nat) (nw k i : Int) (V : List Ent) (w : World) (hr : RowE w A len V) (hlen : len ≤ 1099511627776) (hwf : ∀ e ∈ V, wf64 e.k ∧ wf64 e.i) (hk : wf64 k) (hi : wf64 i) :
    Calls Try.prog 13 #[.agg #[.int .u64 nw, .slice A len cap], .agg #[.int .i64 k, .int .i64 i]] w fun r w' => Below w.heap.size w w' ∧
      ((∃ e ∈ V, e.k = k ∧ e.i = i ∧ r = .returned (.tuple #[.int .u64 e.d, .bool true])) ∨ ((∀ e ∈ V, ¬ (e.k = k ∧ e.i = i)) ∧ r = .returned (.tuple #[.int .u64 0, .bool false]))) := by
  have hb2 : Below w.heap.size w ((w.alloc (xobj nw A len cap)).alloc (tobj k i)) := ((Below.refl _ _).alloc (Nat.le_refl _) _).alloc (by simp) _
  have hr2 := hr.below hb2
  have hx := kb_alloc (heap_alloc_at w (xobj nw A len cap)) (tobj k i)
  have hy := cells2 (heap_alloc_at (w.alloc (xobj nw A len cap)) (tobj k i))
  rw [show (w.alloc (xobj nw A len cap)).heap.size = w.heap.size + 1 by simp] at hy
  obtain ⟨hy0, hy1⟩ := hy
  generalize hW : (w.alloc (xobj nw A len cap)).alloc (tobj k i) = w2 at *
  have hat := at_any A len cap nw k i V w2 hr2 hlen hwf hk hi
  obtain ⟨x0, x1⟩ := xcells hx
  have HX := Lib.hid hx
  have HB := Lib.hid hb2
  have HR := Lib.hid hr2
  clear hb2 hr hr2 hx
  go_enter Try.func13, Try.ntmps13
  go_wp2_with fail
  refine hat.mono ?_
  clear hat hW x0 x1 hy0 hy1
  rintro r w3 ⟨hb3, n, rfl, hn⟩
  have x3 := xcells (kb_below HX.out hb3)
  obtain ⟨x0, x1⟩ := x3
  have HB3 := Lib.hid (HB.out.trans (hb3.mono HB.out.size))
  have hr3 := HR.out.below hb3
  rcases hn with ⟨rfl, hno⟩ | ⟨l1, e, l2, rfl, hek, hei, _, rfl⟩
  · have NO := Lib.hid hno
    clear hno hb3 hr3
    go_wp2
    go_ret2
    exact ⟨HB3.out, .inr ⟨NO.out, rfl⟩⟩
  · have hll : l1.length < len := by have := hr3.1; simp at this; omega
    obtain ⟨blk, off, e', rfl, hV, _, _, q2⟩ := hr3.at_ hll
    obtain rfl : e = e' := by simpa using hV
    have hl' : (l1.length : Int) < len := by omega
    have hl0 : (0 : Int) ≤ l1.length := by omega
    have HE := Lib.hid (And.intro hek hei)
    clear hb3 hr3 hV hek hei
    go_wp2
    go_ret2
    exact ⟨HB3.out, .inl ⟨e, by simp, HE.out.1, HE.out.2, rfl⟩⟩

theorem RowE.tail {w : World} {A : Option Addr} {len cap : Nat} {e : Ent} {V : List Ent} (h : RowE w A len (e :: V)) (hc : len ≤ cap) : RowE w (if cap = 1 then A else A.map (fun a => a.add 3)) (len - 1) V := by
  have hl := h.1
  simp at hl
  refine ⟨by omega, ?_⟩
  rcases h.2 with h0 | ⟨blk, off, cs, fz, rfl, hb, hcs⟩
  · omega
  · by_cases hz : V.length = 0
    · exact .inl (by omega)
    · rw [if_neg (by omega)]
      refine .inr ⟨blk, off + 3, cs, fz, by simp [Addr.add], hb, fun j u hu => ?_⟩
      have := hcs (3 + j) u (by rw [f3, List.getElem?_append_right (by simp [c3])]; simpa [c3] using hu)
      rwa [Nat.add_assoc]

set_option maxHeartbeats 2000000 in
theorem rstep_some (A : Option Addr) (len cap : Nat) (nw tt : Int) (e : Ent) (V : List Ent) (w : World) (hr : RowE w A len (e :: V)) (hlen : len ≤ 1099511627776) (hc : len ≤ cap) (hcm : cap ≤ maxLen) (ht : e.d ≤ tt) :
    Calls Try.prog 25 #[.agg #[.int .u64 nw, .slice A len cap], .int .u64 tt] w fun r w' => Below w.heap.size w w' ∧
      ∃ A', r = .returned (.tuple #[.agg #[.int .u64 e.d, .slice A' (len - 1) (cap - 1)], .agg #[.int .i64 e.k, .int .i64 e.i], .bool true]) ∧ RowE w' A' (len - 1) V := by
  have hl1 : 0 < len := by have := hr.1; simp at this; omega
  have htail := hr.tail hc
  obtain ⟨blk, off, e', rfl, hV, q0, q1, q2⟩ := hr.at_ hl1
  obtain rfl : e = e' := by simpa using hV
  have hblt : blk < w.heap.size := cell_lt q0
  simp only [Nat.zero_mul, Nat.add_zero] at q0 q1 q2
  have HT := Lib.hid htail
  unfold maxLen at hcm
  clear hr htail hV
  obtain ⟨m, rfl⟩ : ∃ m, len = m + 1 := ⟨len - 1, by omega⟩
  obtain ⟨c, rfl⟩ : ∃ c, cap = c + 1 := ⟨cap - 1, by omega⟩
  have hle : ¬ tt < e.d := by omega
  have hb3 : Below w.heap.size w (((w.alloc (xobj nw (some ⟨blk, off, none⟩) (m + 1) (c + 1))).alloc (xobj 0 none 0 0)).alloc (tobj 0 0)) := (((Below.refl _ _).alloc (Nat.le_refl _) _).alloc (by simp) _).alloc (by simp; omega) _
  have hx := kb_alloc (kb_alloc (heap_alloc_at w (xobj nw (some ⟨blk, off, none⟩) (m + 1) (c + 1))) (xobj 0 none 0 0)) (tobj 0 0)
  have hy := kb_alloc (heap_alloc_at (w.alloc (xobj nw (some ⟨blk, off, none⟩) (m + 1) (c + 1))) (xobj 0 none 0 0)) (tobj 0 0)
  have hz := heap_alloc_at ((w.alloc (xobj nw (some ⟨blk, off, none⟩) (m + 1) (c + 1))).alloc (xobj 0 none 0 0)) (tobj 0 0)
  rw [show (w.alloc (xobj nw (some ⟨blk, off, none⟩) (m + 1) (c + 1))).heap.size = w.heap.size + 1 by simp] at hy
  rw [show ((w.alloc (xobj nw (some ⟨blk, off, none⟩) (m + 1) (c + 1))).alloc (xobj 0 none 0 0)).heap.size = w.heap.size + 1 + 1 by simp] at hz
  replace q0 := cell_later hb3 q0
  replace q1 := cell_later hb3 q1
  replace q2 := cell_later hb3 q2
  obtain ⟨x0, x1⟩ := xcells hx
  obtain ⟨y0, y1⟩ := xcells hy
  obtain ⟨z0, z1⟩ := cells2 hz
  have fy0 := frozen_of hy 0
  have fy1 := frozen_of hy 1
  have fz0 := frozen_of hz 0
  have fz1 := frozen_of hz 1
  generalize hW : ((w.alloc (xobj nw (some ⟨blk, off, none⟩) (m + 1) (c + 1))).alloc (xobj 0 none 0 0)).alloc (tobj 0 0) = w3 at *
  have HB3 := Lib.hid hb3
  clear hb3 hx hy hz
  have n1 : blk ≠ w.heap.size + 1 := by omega
  have n2 : blk ≠ w.heap.size + 1 + 1 := by omega
  obtain ⟨A', hA'⟩ : ∃ A', (if c = 0 then (some ⟨blk, off, none⟩ : Option Addr) else some ⟨blk, off + 3, none⟩) = A' := ⟨_, rfl⟩
  have hA : (if c = 0 then (some ⟨blk, off, none⟩ : Option Addr) else some ⟨blk, off + 3, none⟩) = (if c + 1 = 1 then some ⟨blk, off, none⟩ else Option.map (fun a : Addr => a.add 3) (some ⟨blk, off, none⟩)) := by
    by_cases h : c = 0 <;> simp [h, Addr.add]
  have HT1 := HT.out
  rw [← hA, hA'] at HT1
  have HT2 := Lib.hid HT1
  clear hA HT HT1
  go_enter Try.func25, Try.ntmps25
  go_wp2
  go_region
  go_wp2
  have hbel := (((((HB3.out.setCell (p := ⟨w.heap.size + 1, 0, none⟩) (by simp) (.int .u64 e.d)).setCell (p := ⟨w.heap.size + 1, 1, none⟩) (by simp) (.slice A' m c)).setCell (p := ⟨w.heap.size + 1 + 1, 0, none⟩) (by simp; omega) (.int .i64 e.k)).setCell (p := ⟨w.heap.size + 1 + 1, 1, none⟩) (by simp; omega) (.int .i64 e.i)).drew)
  refine bodyPost_ret (v := .tuple #[.agg #[.int .u64 e.d, .slice A' m c], .agg #[.int .i64 e.k, .int .i64 e.i], .bool true]) (by simp [results, Try.results25, go_sem, y0, y1, z0, z1]; done) rfl ?_
  exact ⟨hbel, A', rfl, HT2.out.below hbel⟩

set_option maxHeartbeats 2000000 in
theorem rstep_none (A : Option Addr) (len cap : Nat) (nw tt : Int) (V : List Ent) (w : World) (hr : RowE w A len V) (hlen : len ≤ 1099511627776) (ht : ∀ e ∈ V, tt < e.d) :
    Calls Try.prog 25 #[.agg #[.int .u64 nw, .slice A len cap], .int .u64 tt] w fun r w' => Below w.heap.size w w' ∧
      r = .returned (.tuple #[.agg #[.int .u64 (if nw < tt then tt else nw), .slice A len cap], .agg #[.int .i64 0, .int .i64 0], .bool false]) := by
  obtain ⟨mx, hmx⟩ : ∃ mx, (if nw < tt then tt else nw) = mx := ⟨_, rfl⟩
  rw [hmx]
  have hb3 : Below w.heap.size w (((w.alloc (xobj nw A len cap)).alloc (xobj 0 none 0 0)).alloc (tobj 0 0)) := (((Below.refl _ _).alloc (Nat.le_refl _) _).alloc (by simp) _).alloc (by simp; omega) _
  have hx := kb_alloc (kb_alloc (heap_alloc_at w (xobj nw A len cap)) (xobj 0 none 0 0)) (tobj 0 0)
  have hy := kb_alloc (heap_alloc_at (w.alloc (xobj nw A len cap)) (xobj 0 none 0 0)) (tobj 0 0)
  have hz := heap_alloc_at ((w.alloc (xobj nw A len cap)).alloc (xobj 0 none 0 0)) (tobj 0 0)
  rw [show (w.alloc (xobj nw A len cap)).heap.size = w.heap.size + 1 by simp] at hy
  rw [show ((w.alloc (xobj nw A len cap)).alloc (xobj 0 none 0 0)).heap.size = w.heap.size + 1 + 1 by simp] at hz
  have hr3 := hr.below hb3
  obtain ⟨x0, x1⟩ := xcells hx
  obtain ⟨y0, y1⟩ := xcells hy
  obtain ⟨z0, z1⟩ := cells2 hz
  have fy0 := frozen_of hy 0
  have fy1 := frozen_of hy 1
  have fz0 := frozen_of hz 0
  have fz1 := frozen_of hz 1
  generalize hW : ((w.alloc (xobj nw A len cap)).alloc (xobj 0 none 0 0)).alloc (tobj 0 0) = w3 at *
  have hbel := ((((hb3.setCell (p := ⟨w.heap.size + 1, 0, none⟩) (by simp) (.int .u64 mx)).setCell (p := ⟨w.heap.size + 1, 1, none⟩) (by simp) (.slice A len cap)).setCell (p := ⟨w.heap.size + 1 + 1, 0, none⟩) (by simp; omega) (.int .i64 0)).setCell (p := ⟨w.heap.size + 1 + 1, 1, none⟩) (by simp; omega) (.int .i64 0))
  have HBEL := Lib.hid hbel
  clear hb3 hx hy hz hbel
  by_cases h0 : len = 0
  · subst h0
    clear hr hr3 ht
    go_enter Try.func25, Try.ntmps25
    go_wp2
    refine bodyPost_ret (v := .tuple #[.agg #[.int .u64 mx, .slice A 0 cap], .agg #[.int .i64 0, .int .i64 0], .bool false]) (by simp [results, Try.results25, go_sem, y0, y1, z0, z1]; done) rfl ?_
    exact ⟨HBEL.out, rfl⟩
  · have hl : 0 < len := by omega
    obtain ⟨blk, off, e, rfl, hV, _, _, q2⟩ := hr3.at_ hl
    have hem := ht e (List.mem_of_getElem? hV)
    simp only [Nat.zero_mul, Nat.add_zero] at q2
    have hl0 : ((len : Int) == 0) = false := by simp; omega
    have hl1 : (0 : Int) < len := by omega
    clear hr hr3 ht hV h0
    go_enter Try.func25, Try.ntmps25
    go_wp2
    refine bodyPost_ret (v := .tuple #[.agg #[.int .u64 mx, .slice (some ⟨blk, off, none⟩) len cap], .agg #[.int .i64 0, .int .i64 0], .bool false]) (by simp [results, Try.results25, go_sem, y0, y1, z0, z1]; done) rfl ?_
    exact ⟨HBEL.out, rfl⟩

end Go.Proofs.Ytgpebbopggmgbaa
