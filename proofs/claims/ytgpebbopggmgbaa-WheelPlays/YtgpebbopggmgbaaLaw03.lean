/- Contracts of porpoiselaw03's helpers: timer, awake. -/
import Derived.Test.YtgpebbopggmgbaaWhPut
import Derived.Deep.RegionHeld3
namespace Go.Proofs.Ytgpebbopggmgbaa
set_option linter.unusedVariables false
open Go.ChangeShapes Go.WideShapes Go.ChangeAt Go.RowKit

/-- A block with a timer in it. -/
abbrev tobj (k i : Int) : Obj := .cells #[.int .i64 k, .int .i64 i] 25

theorem timer_any (n : Int) (w : World) :
    Calls Try.prog 21 #[.int .i64 n] w fun r w' => r = .returned (.agg #[.int .i64 1, .int .i64 n]) ∧ w' = w.alloc (tobj 1 n) := by
  go_enter Try.func21, Try.ntmps21
  go_wp2
  refine bodyPost_ret (v := .agg #[.int .i64 1, .int .i64 n]) (by simp [results, Try.results21, go_sem]; done) rfl ?_
  exact ⟨rfl, rfl⟩

theorem wf64_lit {k : Int} (h : -9223372036854775808 ≤ k) (h' : k ≤ 9223372036854775807) : wf64 k := ⟨h, h'⟩
theorem sameT (k i : Int) (hk : wf64 k) (hi : wf64 i) (w : World) : (Op.equalIn 10000 25 (.agg #[.int .i64 k, .int .i64 i]) (.agg #[.int .i64 k, .int .i64 i])).run Try.prog w = .ok true w :=
  same_yes (P := Try.prog) (t := 25) 8 (by decide) (by kernel_rfl) (by kernel_rfl) (by kernel_rfl) (by kernel_rfl) (xs := #[.int .i64 k, .int .i64 i]) (by simpa using timer_flat hk hi) w

/-- A wheel that was made since w0; of what was there ahead of it nothing has turned. -/
structure Own (w0 w : World) (b m : Nat) (now : Int) (L : List Ent) : Prop where
  whl : Whl w b m now L
  low : Below w0.heap.size w0 w
  foot : ∀ j, Foot b m L j → w0.heap.size ≤ j
section
variable {w0 w w' : World} {b m : Nat} {now now' : Int} {L L' : List Ent}
theorem Own.after (h : Own w0 w b m now L) (hf : Frm (Foot b m L) w w') (hw : Whl w' b m now' L') (hsub : ∀ e ∈ L', e ∈ L ∨ w.heap.size ≤ e.g) : Own w0 w' b m now' L' where
  whl := hw
  low := h.low.trans (hf.below h.low.size (fun j hj hF => by have := h.foot j hF; omega))
  foot j hj := by
    have hl := h.low.size
    rcases hj with rfl | rfl | ⟨e, he, rfl⟩
    · exact h.foot _ (.inl rfl)
    · exact h.foot _ (.inr (.inl rfl))
    · rcases hsub e he with he | he
      · exact h.foot _ (.inr (.inr ⟨e, he, rfl⟩))
      · omega
theorem Own.below (h : Own w0 w b m now L) (hb : Below w.heap.size w w') : Own w0 w' b m now L := ⟨h.whl.below hb, h.low.trans (hb.mono h.low.size), h.foot⟩
theorem Own.ali (h : Own w0 w b m now L) (ha : Ali w w') : Own w0 w' b m now L := h.below ⟨ha.os, ha.tape, ha.output, by rw [ha.heap]; exact Nat.le_refl _, fun _ _ => by rw [ha.heap]⟩
theorem Own.alloc (h : Own w0 w b m now L) (o : Obj) : Own w0 (w.alloc o) b m now L := h.below (below_alloc w o)
theorem Own.drew (h : Own w0 w b m now L) : Own w0 w.drew b m now L := h.ali ⟨rfl, rfl, rfl, rfl⟩
/-- A block of another kind stays as it is. -/
theorem Whl.other (h : Whl w b m now L) (hf : Frm (Foot b m L) w w') {j : Nat} {cs : Array Value} {t : TypeId} {f : Nat × Nat} (hj : w.heap[j]? = some (.cells cs t f)) (h1 : t ≠ 64) (h2 : t ≠ 72) :
    w'.heap[j]? = some (.cells cs t f) := by rw [hf.block j (heap_lt hj) (h.not_foot hj h1 h2)]; exact hj
end

theorem own_new (w0 : World) (now : Int) (w : World) (h0 : 0 ≤ now) (h1 : now ≤ 18446744073709551615) (hb : Below w0.heap.size w0 w) :
    Calls Try.prog 10 #[.int .u64 now] w fun r w' => ∃ b m, r = .returned (.pointer (some ⟨b, 0, none⟩)) ∧ Own w0 w' b m now [] ∧ Below w.heap.size w w' ∧ w.heap.size ≤ b ∧ w.heap.size ≤ m := by
  refine (new_whl now w h0 h1).mono ?_
  rintro r w' ⟨b, m, rfl, hw, hb', h2, h3⟩
  have := hb.size
  refine ⟨b, m, rfl, ⟨hw, hb.trans (hb'.mono hb.size), ?_⟩, hb', h2, h3⟩
  rintro j (rfl | rfl | ⟨e, he, _⟩)
  · omega
  · omega
  · cases he
theorem own_put (w0 : World) (b m : Nat) (now k i due : Int) (L : List Ent) (w : World) (h : Own w0 w b m now L) (hk : wf64 k) (hi : wf64 i) (hd : 0 ≤ due) (hd' : due ≤ 18446744073709551615) (hlen : L.length < 1099511627776) (hn : ∀ e ∈ L, ¬ (e.k = k ∧ e.i = i)) :
    Calls Try.prog 20 #[.pointer (some ⟨b, 0, none⟩), .agg #[.int .i64 k, .int .i64 i], .int .u64 due] w fun r w' => r = .returned (.int .i64 0) ∧ Frm (Foot b m L) w w' ∧ ∃ g, w.heap.size ≤ g ∧ Own w0 w' b m now (ins ⟨g, k, i, if due < now then now else due⟩ L) := by
  refine (put_new b m now k i due L w h.whl hk hi hd hd' hn hlen).mono ?_
  rintro r w' ⟨hf, rfl, g, hg, hw⟩
  refine ⟨rfl, hf, g, hg, h.after hf hw (fun e he => ?_)⟩
  rcases mem_ins.1 he with rfl | he
  · exact .inr hg
  · exact .inl he
theorem own_step_some (w0 : World) (b m : Nat) (now tt : Int) (e : Ent) (l : List Ent) (w : World) (h : Own w0 w b m now (e :: l)) (ht : e.d ≤ tt) (ht' : tt ≤ 18446744073709551615) :
    Calls Try.prog 16 #[.pointer (some ⟨b, 0, none⟩), .int .u64 tt] w fun r w' => r = .returned (.tuple #[.agg #[.int .i64 e.k, .int .i64 e.i], .bool true]) ∧ Frm (Foot b m (e :: l)) w w' ∧ Own w0 w' b m e.d l := by
  refine (step_some b m now tt e l w h.whl ht ht').mono ?_
  rintro r w' ⟨hf, rfl, hw⟩
  exact ⟨rfl, hf, h.after hf hw (fun x hx => .inl (by simp [hx]))⟩
theorem own_step_none (w0 : World) (b m : Nat) (now tt : Int) (L : List Ent) (w : World) (h : Own w0 w b m now L) (ht : now ≤ tt) (ht' : tt ≤ 18446744073709551615) (hall : ∀ e ∈ L, tt < e.d) :
    Calls Try.prog 16 #[.pointer (some ⟨b, 0, none⟩), .int .u64 tt] w fun r w' => r = .returned (.tuple #[.agg #[.int .i64 0, .int .i64 0], .bool false]) ∧ Frm (Foot b m L) w w' ∧ Own w0 w' b m tt L := by
  refine (step_none b m now tt L w h.whl ht ht' hall).mono ?_
  rintro r w' ⟨hf, rfl, hw⟩
  exact ⟨rfl, hf, h.after hf hw (fun x hx => .inl hx)⟩

theorem cells2 {w : World} {j : Nat} {k i : Int} (h : w.heap[j]? = some (tobj k i)) : w.cell? ⟨j, 0, none⟩ = some (.int .i64 k) ∧ w.cell? ⟨j, 1, none⟩ = some (.int .i64 i) := ⟨by rw [cell_of h]; rfl, by rw [cell_of h]; rfl⟩

/-- What the example's last statement reads. -/
def Held3 (w0 : World) (b m x y z : Nat) (v : World) : Prop := v.cell? ⟨x, 0, none⟩ = some (.int .i64 1) ∧ v.cell? ⟨x, 1, none⟩ = some (.int .i64 3) ∧ v.cell? ⟨y, 0, none⟩ = some (.int .i64 1) ∧ v.cell? ⟨y, 1, none⟩ = some (.int .i64 1) ∧
  v.cell? ⟨z, 0, none⟩ = some (.int .i64 1) ∧ v.cell? ⟨z, 1, none⟩ = some (.int .i64 2) ∧ Own w0 v b m 100 []
theorem cell_lt {w : World} {a : Addr} {v : Value} (h : w.cell? a = some v) : a.block < w.heap.size := by
  unfold World.cell? at h
  split at h
  · rename_i hh
    exact heap_lt hh
  · cases h
theorem cell_alloc {w : World} {a : Addr} {v : Value} (h : w.cell? a = some v) (o : Obj) : (w.alloc o).cell? a = some v := (World.cell?_of_block (w := w) (heap_alloc_lt (cell_lt h))).trans h
theorem held3_drew {w0 : World} {b m x y z : Nat} {v : World} (h : Held3 w0 b m x y z v) : Held3 w0 b m x y z v.drew := ⟨h.1, h.2.1, h.2.2.1, h.2.2.2.1, h.2.2.2.2.1, h.2.2.2.2.2.1, h.2.2.2.2.2.2.drew⟩
theorem held3_alloc {w0 : World} {b m x y z : Nat} {v : World} {o : Obj} (h : Held3 w0 b m x y z v) : Held3 w0 b m x y z (v.alloc o) :=
  ⟨cell_alloc h.1 _, cell_alloc h.2.1 _, cell_alloc h.2.2.1 _, cell_alloc h.2.2.2.1 _, cell_alloc h.2.2.2.2.1 _, cell_alloc h.2.2.2.2.2.1 _, h.2.2.2.2.2.2.alloc _⟩

set_option maxHeartbeats 4000000 in
theorem awake_any (w : World) : Calls Try.prog 9 #[] w fun r w' => r = .returned (.bool true) ∧ Below w.heap.size w w' := by
  have n64 : ∀ n : Int, 0 ≤ n → n ≤ 100 → wf64 n := fun n h h' => ⟨by omega, by omega⟩
  go_enter Try.func9, Try.ntmps9
  go_wp2_with fail
  refine (own_new w 0 w (by omega) (by omega) (Below.refl _ _)).mono ?_
  rintro r w1 ⟨b, m, rfl, h1, _, _, _⟩
  go_wp2_with fail
  refine (timer_any 1 w1).mono ?_
  rintro r _ ⟨rfl, rfl⟩
  go_wp2_with fail
  refine (own_put w b m 0 1 1 70 [] _ (h1.alloc _) (n64 _ (by omega) (by omega)) (n64 _ (by omega) (by omega)) (by omega) (by omega) (by simp) (by simp)).mono ?_
  rintro r w2 ⟨rfl, _, g1, _, h2⟩
  rw [if_neg (by omega)] at h2
  clear h1
  go_wp2_with fail
  refine (timer_any 2 w2).mono ?_
  rintro r _ ⟨rfl, rfl⟩
  go_wp2_with fail
  refine (own_put w b m 0 1 2 70 _ _ (h2.alloc _) (n64 _ (by omega) (by omega)) (n64 _ (by omega) (by omega)) (by omega) (by omega) (by simp [ins]) (by simp [ins])).mono ?_
  rintro r w3 ⟨rfl, _, g2, _, h3⟩
  rw [if_neg (by omega)] at h3
  clear h2
  go_wp2_with fail
  refine (timer_any 3 w3).mono ?_
  rintro r _ ⟨rfl, rfl⟩
  go_wp2_with fail
  refine (own_put w b m 0 1 3 5 _ _ (h3.alloc _) (n64 _ (by omega) (by omega)) (n64 _ (by omega) (by omega)) (by omega) (by omega) (by simp [ins]) (by simp [ins])).mono ?_
  rintro r w4 ⟨rfl, _, g3, _, h4⟩
  rw [if_neg (by omega)] at h4
  clear h3
  have e4 : ins ⟨g3, 1, 3, 5⟩ (ins ⟨g2, 1, 2, 70⟩ (ins ⟨g1, 1, 1, 70⟩ [])) = [⟨g3, 1, 3, 5⟩, ⟨g1, 1, 1, 70⟩, ⟨g2, 1, 2, 70⟩] := by simp [ins]
  rw [e4] at h4
  clear e4
  have H4 := Lib.hid h4
  clear h4
  go_wp2_with fail
  refine (own_step_some w b m 0 100 _ _ w4 H4.out (by simp) (by omega)).mono ?_
  rintro r w5 ⟨rfl, _, h5⟩
  have H5 := Lib.hid h5
  clear h5
  go_wp2_with fail
  refine (own_step_some w b m 5 100 _ _ _ (H5.out.alloc _) (by simp) (by omega)).mono ?_
  rintro r w6 ⟨rfl, hf6, h6⟩
  have x6 := Whl.other (H5.out.alloc _).whl hf6 (heap_alloc_at w5 (tobj 1 3)) (by decide) (by decide)
  have H6 := Lib.hid h6
  have X6 := Lib.hid x6
  clear h6 x6 hf6
  go_wp2_with fail
  refine (own_step_some w b m 70 100 _ _ _ (H6.out.alloc _) (by simp) (by omega)).mono ?_
  rintro r w7 ⟨rfl, hf7, h7⟩
  have x7 := Whl.other (H6.out.alloc (tobj 1 1)).whl hf7 ((heap_alloc_lt (heap_lt X6.out)).trans X6.out) (by decide) (by decide)
  have y7 := Whl.other (H6.out.alloc _).whl hf7 (heap_alloc_at w6 (tobj 1 1)) (by decide) (by decide)
  have H7 := Lib.hid h7
  have X7 := Lib.hid (And.intro x7 y7)
  clear h7 x7 y7 hf7
  go_wp2_with fail
  refine (own_step_none w b m 70 100 _ _ (H7.out.alloc _) (by omega) (by omega) (by simp)).mono ?_
  rintro r w8 ⟨rfl, hf8, h8⟩
  have x8 := Whl.other (H7.out.alloc (tobj 1 2)).whl hf8 ((heap_alloc_lt (heap_lt X7.out.1)).trans X7.out.1) (by decide) (by decide)
  have y8 := Whl.other (H7.out.alloc (tobj 1 2)).whl hf8 ((heap_alloc_lt (heap_lt X7.out.2)).trans X7.out.2) (by decide) (by decide)
  have z8 := Whl.other (H7.out.alloc _).whl hf8 (heap_alloc_at w7 (tobj 1 2)) (by decide) (by decide)
  have H8 := Lib.hid h8
  have X8 := Lib.hid (And.intro x8 (And.intro y8 z8))
  clear h8 x8 y8 z8 hf8
  go_wp2_with fail
  have hx9 := cells2 ((heap_alloc_lt (o := tobj 0 0) (heap_lt X8.out.1)).trans X8.out.1)
  have hy9 := cells2 ((heap_alloc_lt (o := tobj 0 0) (heap_lt X8.out.2.1)).trans X8.out.2.1)
  have hz9 := cells2 ((heap_alloc_lt (o := tobj 0 0) (heap_lt X8.out.2.2)).trans X8.out.2.2)
  have hS : Held3 w b m w5.heap.size w6.heap.size w7.heap.size (w8.alloc (tobj 0 0)) := ⟨hx9.1, hx9.2, hy9.1, hy9.2, hz9.1, hz9.2, H8.out.alloc _⟩
  have s1 := sameT 1 1 (n64 _ (by omega) (by omega)) (n64 _ (by omega) (by omega))
  have s2 := sameT 1 2 (n64 _ (by omega) (by omega)) (n64 _ (by omega) (by omega))
  have s3 := sameT 1 3 (n64 _ (by omega) (by omega)) (n64 _ (by omega) (by omega))
  generalize w8.alloc (tobj 0 0) = w9 at *
  clear hx9 hy9 hz9 X6 X7 X8 H4 H5 H6 H7 H8
  go_region_held3 (fun v => v.cell? ⟨w5.heap.size, 0, none⟩ = some (.int .i64 1) ∧ v.cell? ⟨w5.heap.size, 1, none⟩ = some (.int .i64 3) ∧ v.cell? ⟨w6.heap.size, 0, none⟩ = some (.int .i64 1) ∧ v.cell? ⟨w6.heap.size, 1, none⟩ = some (.int .i64 1) ∧
      v.cell? ⟨w7.heap.size, 0, none⟩ = some (.int .i64 1) ∧ v.cell? ⟨w7.heap.size, 1, none⟩ = some (.int .i64 2) ∧ Own w v b m 100 [])
    (first | exact held3_drew hS | exact held3_drew (held3_alloc hS) | exact held3_drew (held3_alloc (held3_alloc hS)) | exact held3_drew (held3_alloc (held3_alloc (held3_alloc hS))))
    (first | (go_at_call 21; refine (timer_any _ _).mono ?_; rintro r v' ⟨rfl, rfl⟩) | (go_at_call 17; refine (now_whl b m 100 [] _ (held3_drew (held3_alloc (held3_alloc (held3_alloc hS)))).2.2.2.2.2.2.whl).mono ?_; rintro r v' ⟨rfl, rfl⟩))
  all_goals go_wp2
  all_goals go_ret
  all_goals exact ⟨rfl, (held3_drew (held3_alloc (held3_alloc (held3_alloc hS)))).2.2.2.2.2.2.low⟩

end Go.Proofs.Ytgpebbopggmgbaa
