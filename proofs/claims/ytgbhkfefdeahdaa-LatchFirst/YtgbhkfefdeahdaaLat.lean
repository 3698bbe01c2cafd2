/- Contracts of package latch: May, New, Of, Since, All. -/
import Derived.Test.YtgbhkfefdeahdaaOuts
import Derived.Test.YtgbhkfefdeahdaaMapInt
import Derived.Deep.RegionLaw
namespace Go.Proofs.Ytgbhkfefdeahdaa
set_option linter.unusedVariables false
open Go.ChangeShapes Go.WideShapes Go.ChangeAt Go.RowKit

/-- A log's block: its list, its map. -/
abbrev lobj (v : Value) (m : Nat) : Obj := .cells #[v, .map (some m)] 45
/-- A log in block b, its map in block m, its list v, made since there were 'base' blocks: the outcomes L. -/
structure Lat (w : World) (base b m : Nat) (v : Value) (L : List Ot) : Prop where
  blk : w.heap[b]? = some (lobj v m)
  row : OutR w base v L
  mp : MapN w m L.length (place L)
  un : Unlike L
  fits : ∀ x ∈ L, x.Fits
  may : ∀ x ∈ L, x.may = true
  lb : base ≤ b
  lm : base ≤ m
/-- The blocks of a log. -/
def LatF (b m : Nat) (v : Value) (j : Nat) : Prop := j = b ∨ j = m ∨ v.ownBlock = some j
section
variable {w w' : World} {base b m : Nat} {v : Value} {L : List Ot}
theorem OutR.apart {F : Nat → Prop} (h : OutR w base v L) (hf : Frm F w w') (hF : ∀ g, v.ownBlock = some g → ¬ F g) : OutR w' base v L := by
  refine ⟨⟨h.1.1, ?_⟩, h.2⟩
  rcases h.1.2 with h0 | ⟨g, cap, cur, hv, hb, hh, hr⟩
  · exact .inl h0
  · exact .inr ⟨g, cap, cur, hv, hb, by rw [hf.block g (heap_lt hh) (hF g (by rw [hv]; rfl))]; exact hh, hr⟩
theorem Lat.cells (h : Lat w base b m v L) : w.cell? ⟨b, 0, none⟩ = some v ∧ w.cell? ⟨b, 1, none⟩ = some (.map (some m)) := ⟨by rw [cell_of h.blk]; rfl, by rw [cell_of h.blk]; rfl⟩
theorem Lat.frm {F : Nat → Prop} (h : Lat w base b m v L) (hf : Frm F w w') (hF : ∀ j, LatF b m v j → ¬ F j) : Lat w' base b m v L :=
  ⟨(hf.block b (heap_lt h.blk) (hF b (.inl rfl))).trans h.blk, h.row.apart hf (fun g hg => hF g (.inr (.inr hg))), h.mp.keep (hf.block m h.mp.lt (hF m (.inr (.inl rfl)))), h.un, h.fits, h.may, h.lb, h.lm⟩
theorem Lat.below (h : Lat w base b m v L) (hb : Below w.heap.size w w') : Lat w' base b m v L := h.frm (F := fun _ => False) (Frm.of_below hb) (fun _ _ => id)
theorem Lat.ali (h : Lat w base b m v L) (ha : Ali w w') : Lat w' base b m v L := h.below (ali_below ha)
theorem Lat.alloc (h : Lat w base b m v L) (o : Obj) : Lat (w.alloc o) base b m v L := h.below (below_alloc w o)
theorem Lat.low (h : Lat w base b m v L) : ∀ j, LatF b m v j → base ≤ j ∧ j < w.heap.size := by
  rintro j (rfl | rfl | hj)
  · exact ⟨h.lb, heap_lt h.blk⟩
  · exact ⟨h.lm, h.mp.lt⟩
  · exact h.row.1.lt j hj
end
/-- 'load' out of the middle of a row. -/
theorem wpList_load_out {ops : Array Oper} {rest : List Oper} {o : Oper} {a : Act} {w : World} {Q : Exit → Act → World → Prop} (hg : o.guard = none) (x : Operand) (ho : o.op = .load 29 x) (g p : Nat) (hx : a.eval x = .pointer (some ⟨g, p, none⟩)) (y : Ot) (hr : w.rangeAt g p y.vals)
    (h : wpList Try.prog ops Q rest (a.put o.dst (.agg (aggV y.vals))) w) : wpList Try.prog ops Q (o :: rest) a w := by
  obtain ⟨fs, hu⟩ := undO
  exact wpList_load_mid hg 29 x ho g p hx y.vals _ hr hu rfl (sizeO y) h

/-- The ways by which May goes. -/
theorem may_ways (x : Ot) : (x.kind = 1 ∧ x.may = (x.cause == 0)) ∨ (x.kind = 2 ∧ x.may = (x.cause == 0)) ∨ (x.kind = 3 ∧ 1 ≤ x.cause ∧ x.may = decide (x.cause ≤ 4)) ∨ (x.kind = 3 ∧ ¬ 1 ≤ x.cause ∧ x.may = false) ∨
    (x.kind = 4 ∧ (x.val == 0) = false ∧ x.may = false) ∨ (x.kind = 4 ∧ (x.val == 0) = true ∧ 1 ≤ x.cause ∧ x.may = decide (x.cause ≤ 4)) ∨ (x.kind = 4 ∧ (x.val == 0) = true ∧ ¬ 1 ≤ x.cause ∧ x.may = false) ∨
    ((x.kind == 1) = false ∧ (x.kind == 2) = false ∧ (x.kind == 3) = false ∧ (x.kind == 4) = false ∧ x.may = false) := by
  unfold Ot.may Ot.May
  by_cases k1 : x.kind = 1
  · left; refine ⟨k1, ?_⟩; by_cases h : x.cause = 0 <;> simp [k1, h]
  right
  by_cases k2 : x.kind = 2
  · left; refine ⟨k2, ?_⟩; by_cases h : x.cause = 0 <;> simp [k2, h]
  right
  by_cases k3 : x.kind = 3
  · by_cases h : 1 ≤ x.cause
    · left; exact ⟨k3, h, by simp [k3, h]⟩
    · right; left; exact ⟨k3, h, by simp [k3]; omega⟩
  right; right
  by_cases k4 : x.kind = 4
  · by_cases hv : x.val = 0
    · by_cases h : 1 ≤ x.cause
      · right; left; exact ⟨k4, by simp [hv], h, by simp [k4, h, hv]⟩
      · right; right; left; exact ⟨k4, by simp [hv], h, by simp [k4]; omega⟩
    · left; exact ⟨k4, by simp [hv], by simp [k4, hv]⟩
  · right; right; right; exact ⟨by simp [k1], by simp [k2], by simp [k3], by simp [k4], by simp [k1, k2, k3, k4]⟩
set_option maxHeartbeats 1000000 in
theorem may_any (x : Ot) (w : World) : Calls Try.prog 15 #[.agg (aggV x.vals)] w fun r w' => r = .returned (.bool x.may) ∧ Below w.heap.size w w' := by
  obtain ⟨g, hg⟩ : ∃ g, w.heap.size = g := ⟨_, rfl⟩
  have hm := may_ways x
  generalize x.may = t at hm ⊢
  rcases hm with ⟨k, rfl⟩ | ⟨k, rfl⟩ | ⟨k, c, rfl⟩ | ⟨k, c, rfl⟩ | ⟨k, v, rfl⟩ | ⟨k, v, c, rfl⟩ | ⟨k, v, c, rfl⟩ | ⟨k1, k2, k3, k4, rfl⟩
  all_goals (
    go_enter Try.func15, Try.ntmps15
    go_wp2_with (refine wpList_box_agg rfl 29 _ rfl g hg x.vals rfl ?_; intro w2 h2 l2 t2; obtain ⟨d0, d1, d2, d3, d4⟩ := cellsO h2; have HB := Lib.hid l2; clear h2 l2 t2 d0 d4)
    go_ret
    exact ⟨rfl, by first | exact HB.out | (rw [hg]; exact HB.out)⟩)

theorem new_lat (base : Nat) (w : World) (hbase : base ≤ w.heap.size) : Calls Try.prog 10 #[] w fun r w' => ∃ b, r = .returned (.pointer (some ⟨b, 0, none⟩)) ∧ ∃ m, Lat w' base b m (.slice none 0 0) [] ∧ Below w.heap.size w w' := by
  have hr : Lat ((w.alloc (.map #[] 0)).alloc (lobj (.slice none 0 0) w.heap.size)) base (w.heap.size + 1) w.heap.size (.slice none 0 0) [] :=
    ⟨by have := heap_alloc_at (w.alloc (.map #[] 0)) (lobj (.slice none 0 0) w.heap.size); simpa using this, OwnR.nil _ _ _, (mapN_new w).keep (heap_alloc_lt (by simp)), unlike_nil, by simp, by simp, by omega, hbase⟩
  have hb : Below w.heap.size w ((w.alloc (.map #[] 0)).alloc (lobj (.slice none 0 0) w.heap.size)) := ((Below.refl _ _).alloc (Nat.le_refl _) _).alloc (by simp) _
  have HR := Lib.hid hr
  have HB := Lib.hid hb
  clear hr hb
  have hmm := @run_makeMap Try.prog
  go_enter Try.func10, Try.ntmps10
  go_wp2
  go_ret
  exact ⟨w.heap.size + 1, rfl, w.heap.size, HR.out, HB.out⟩

set_option maxRecDepth 100000 in
set_option maxHeartbeats 1000000 in
theorem of_nil (z : Int) (w : World) : Calls Try.prog 13 #[.pointer none, .int .i64 z] w fun r w' => r = .returned (.tuple #[.agg (aggV Ot.zero.vals), .bool false]) ∧ Below w.heap.size w w' := by
  obtain ⟨g, hg⟩ : ∃ g, w.heap.size = g := ⟨_, rfl⟩
  go_enter Try.func13, Try.ntmps13
  go_wp2_with (first
    | (refine wpList_alloc_agg rfl 29 rfl g hg Ot.zero.vals (allocO _) ?_; intro w1 h1 l1 t1; have H1 := Lib.hid h1; have L1 := Lib.hid l1; clear h1 l1 t1)
    | (refine wpList_build_agg rfl 29 #[] rfl Ot.zero.vals (buildO _) ?_)
    | (refine wpList_store_agg rfl 29 _ _ rfl g Ot.zero.vals Ot.zero.vals rfl rfl ?hz rfl (sizeO _) (Ot.ones_vals _) ?_; (case hz => exact H1.out); intro w2 h2 f2 t2))
  refine bodyPost_ret (v := .tuple #[.agg (aggV Ot.zero.vals), .bool false]) (results_agg1 Try.results13 rfl (loadO h2) rfl) rfl ⟨rfl, ?_⟩
  subst hg
  exact L1.out.trans (f2.below L1.out.size (fun j hj e => by omega))

set_option maxRecDepth 100000 in
set_option maxHeartbeats 1000000 in
theorem of_lat (base b m : Nat) (v : Value) (L : List Ot) (z : Int) (w : World) (h : Lat w base b m v L) (hz : wf64 z) :
    Calls Try.prog 13 #[.pointer (some ⟨b, 0, none⟩), .int .i64 z] w fun r w' => r = .returned (.tuple #[.agg (aggV (ofL L z).vals), .bool (hasL L z)]) ∧ Below w.heap.size w w' := by
  obtain ⟨g, hg⟩ : ∃ g, w.heap.size = g := ⟨_, rfl⟩
  have HL := Lib.hid h
  have HZ := Lib.hid hz
  obtain ⟨A, n, c, hv, hrow, hn, hnc, hcm⟩ := h.row.row'
  subst hv
  cases hh : hasL L z
  · have hp := place_none hh
    rw [ofL_none hh]
    have HP := Lib.hid hp
    clear h hz hrow hh hp
    go_enter Try.func13, Try.ntmps13
    go_wp2_with (first
      | (refine wpList_alloc_agg rfl 29 rfl g hg Ot.zero.vals (allocO _) ?_; intro w1 h1 l1 t1; have H1 := Lib.hid h1; have L1 := Lib.hid l1;
         have H2 := HL.out.below (by rw [hg]; exact l1); obtain ⟨c0, c1⟩ := H2.cells; have hlk := H2.mp.look HZ.out; rw [HP.out] at hlk; simp only [Option.getD_none, Option.isSome_none] at hlk; clear h1 l1 t1 H2)
      | (refine wpList_build_agg rfl 29 #[] rfl Ot.zero.vals (buildO _) ?_)
      | (refine wpList_store_agg rfl 29 _ _ rfl g Ot.zero.vals Ot.zero.vals rfl rfl ?hz rfl (sizeO _) (Ot.ones_vals _) ?_; (case hz => exact H1.out); intro w2 h2 f2 t2))
    refine bodyPost_ret (v := .tuple #[.agg (aggV Ot.zero.vals), .bool false]) (results_agg1 Try.results13 rfl (loadO h2) rfl) rfl ⟨rfl, ?_⟩
    subst hg
    exact L1.out.trans (f2.below L1.out.size (fun j hj e => by omega))
  · obtain ⟨i, hp, hi, _⟩ := place_some hh
    have hil : i < n := by have := (List.getElem?_eq_some_iff.1 hi).1; rw [hn.out] at this; exact this
    generalize ofL L z = y at hi ⊢
    obtain ⟨rb, off, x, rfl, hx, hrg⟩ := hrow.out hil
    rw [hi] at hx
    injection hx with hx
    subst hx
    have hrb : ∀ w', Below w.heap.size w w' → w'.rangeAt rb (off + i * 5) y.vals := fun w' hb => range_later hrg hb
    have HP := Lib.hid hp
    have HRB := Lib.hid hrb
    have hil' : (i : Int) < n := by omega
    clear h hz hrow hh hp hi hrg hrb
    go_enter Try.func13, Try.ntmps13
    go_wp2_with (first
      | (refine wpList_alloc_agg rfl 29 rfl g hg Ot.zero.vals (allocO _) ?_; intro w1 h1 l1 t1; have H1 := Lib.hid h1; have L1 := Lib.hid l1;
         have H2 := HL.out.below (by rw [hg]; exact l1); obtain ⟨c0, c1⟩ := H2.cells; have hlk := H2.mp.look HZ.out; rw [HP.out] at hlk; simp only [Option.getD_some, Option.isSome_some] at hlk; have R1 := Lib.hid (HRB.out w1 (by rw [hg]; exact l1)); clear h1 l1 t1 H2)
      | (refine wpList_load_out rfl _ rfl rb (off + i * 5) rfl y R1.out ?_)
      | (refine wpList_store_agg rfl 29 _ _ rfl g Ot.zero.vals y.vals rfl rfl ?hz rfl (sizeO _) (Ot.ones_vals _) ?_; (case hz => exact H1.out); intro w2 h2 f2 t2))
    refine bodyPost_ret (v := .tuple #[.agg (aggV y.vals), .bool true]) (results_agg1 Try.results13 rfl (loadO h2) rfl) rfl ⟨rfl, ?_⟩
    subst hg
    exact L1.out.trans (f2.below L1.out.size (fun j hj e => by omega))
end Go.Proofs.Ytgbhkfefdeahdaa
