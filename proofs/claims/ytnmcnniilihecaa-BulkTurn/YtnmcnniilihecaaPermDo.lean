/- Contracts of package permit: Holds, Take, Free. -/
import Derived.Test.YtnmcnniilihecaaPerm
import Derived.Test.YtnmcnniilihecaaTail
namespace Go.Proofs.Ytnmcnniilihecaa
set_option linter.unusedVariables false
open Go.ChangeShapes Go.WideShapes Go.ChangeAt Go.RowKit

theorem hcells {w : World} {j : Nat} {h : Hol} (hj : w.heap[j]? = some (phobj h)) : w.cell? ⟨j, 0, none⟩ = some (.int .i64 h.1) ∧ w.cell? ⟨j, 1, none⟩ = some (.int .i64 h.2) := ⟨by rw [cell_of hj]; rfl, by rw [cell_of hj]; rfl⟩

set_option maxHeartbeats 1000000 in
theorem holds_grow (b m most : Nat) (L : List Hol) (x y : Int) (w : World) (h : Prm w b m most L) (hx : wfH (x, y)) :
    Calls Try.prog 31 #[.pointer (some ⟨b, 0, none⟩), .agg #[.int .i64 x, .int .i64 y]] w fun r w' => r = .returned (.bool (decide ((x, y) ∈ L))) ∧ ∃ q os, w' = Sort.grow (w.drewN q) os := by
  have hgr : ∃ q os, ((w.alloc (phobj (x, y))).alloc (.cells #[] 76)).drew = Sort.grow (w.drewN q) os := ⟨1, _, by rw [Sort.alloc_eq_grow, Sort.alloc_eq_grow, Sort.grow_grow]; rfl⟩
  have h1 := h.alloc (phobj (x, y))
  have hb1 := below_alloc w (phobj (x, y))
  have hd1 := heap_alloc_at w (phobj (x, y))
  generalize hW : w.alloc (phobj (x, y)) = w1 at *
  have h2 := h1.alloc (.cells #[] 76)
  have hb2 := below_alloc w1 (.cells #[] 76)
  have hd2 := kb_alloc hd1 (.cells #[] 76)
  generalize hW2 : w1.alloc (.cells #[] 76) = w2 at *
  obtain ⟨c0, c1⟩ := h1.cells
  obtain ⟨c0', c1'⟩ := h2.cells
  obtain ⟨d0, d1⟩ := hcells hd1
  obtain ⟨d0', d1'⟩ := hcells hd2
  have hl1 := (h1.mp.keep (w' := w1.drew) rfl).look hx
  have hl2 := (h2.mp.keep (w' := w2.drew) rfl).look hx
  unfold hv at hl1 hl2
  have HB := Lib.hid hgr
  generalize decide ((x, y) ∈ L) = t at hl1 hl2 ⊢
  clear h1 h hb1 h2 hb2 hd1 hd2 hgr
  go_enter Try.func31, Try.ntmps31
  go_wp2
  go_region
  all_goals go_wp2
  all_goals go_ret
  all_goals exact ⟨rfl, HB.out⟩
theorem holds_prm (b m most : Nat) (L : List Hol) (x y : Int) (w : World) (h : Prm w b m most L) (hx : wfH (x, y)) :
    Calls Try.prog 31 #[.pointer (some ⟨b, 0, none⟩), .agg #[.int .i64 x, .int .i64 y]] w fun r w' => r = .returned (.bool (decide ((x, y) ∈ L))) ∧ Below w.heap.size w w' := by
  refine (holds_grow b m most L x y w h hx).mono ?_
  rintro r w' ⟨rfl, q, os, rfl⟩
  exact ⟨rfl, grow_below _ _ _⟩
theorem holds_none (x y : Int) (w : World) : Calls Try.prog 31 #[.pointer none, .agg #[.int .i64 x, .int .i64 y]] w fun r w' => r = .returned (.bool false) ∧ Below w.heap.size w w' := by
  have HB := Lib.hid (below_alloc w (phobj (x, y)))
  go_enter Try.func31, Try.ntmps31
  go_wp2
  go_ret
  exact ⟨rfl, HB.out⟩

set_option maxHeartbeats 1000000 in
theorem take_no (b m most : Nat) (L : List Hol) (x y : Int) (w : World) (h : Prm w b m most L) (hx : wfH (x, y)) (hno : ¬ L.length < most ∨ (x, y) ∈ L) :
    Calls Try.prog 36 #[.pointer (some ⟨b, 0, none⟩), .agg #[.int .i64 x, .int .i64 y]] w fun r w' => r = .returned (.bool false) ∧ Below w.heap.size w w' := by
  have h1 := h.alloc (phobj (x, y))
  have hb1 := below_alloc w (phobj (x, y))
  have hd1 := heap_alloc_at w (phobj (x, y))
  generalize hW : w.alloc (phobj (x, y)) = w1 at *
  have hrm := room_prm b m most L w1 h1
  have H1 := Lib.hid h1
  have HB := Lib.hid hb1
  have HD := Lib.hid hd1
  have HNO := Lib.hid hno
  clear h h1 hb1 hd1 hno
  by_cases hr : L.length < most
  · rw [decide_eq_true hr] at hrm
    have hin : (x, y) ∈ L := by rcases HNO.out with a | a; exact (a hr).elim; exact a
    have HIN := Lib.hid hin
    clear hr hin
    go_enter Try.func36, Try.ntmps36
    go_wp2_with fail
    refine hrm.mono ?_
    clear hrm
    rintro r w2 ⟨rfl, ha⟩
    have h2 := H1.out.ali ha
    have hho := holds_prm b m most L x y w2 h2 hx
    rw [decide_eq_true HIN.out] at hho
    obtain ⟨d0, d1⟩ := hcells (kb_below HD.out (ali_below ha))
    have HB2 := Lib.hid (below_ali HB.out ha)
    clear h2 ha
    go_wp2_with fail
    refine hho.mono ?_
    clear hho
    rintro r w3 ⟨rfl, hb3⟩
    have HB3 := Lib.hid (HB2.out.trans (hb3.mono HB2.out.size))
    clear hb3 d0 d1
    go_wp2
    go_ret
    exact ⟨rfl, HB3.out⟩
  · rw [decide_eq_false hr] at hrm
    clear hr
    go_enter Try.func36, Try.ntmps36
    go_wp2_with fail
    refine hrm.mono ?_
    clear hrm
    rintro r w2 ⟨rfl, ha⟩
    have HB2 := Lib.hid (below_ali HB.out ha)
    clear ha
    go_wp2
    go_ret
    exact ⟨rfl, HB2.out⟩

theorem frm_turned {w w' : World} {m : Nat} (h : w.drew.mapTurned w' m) : Frm (· = m) w w' := (Frm.of_ali (F := (· = m)) (drew_ali w)).trans (Frm.of_grown (F := (· = m)) h.grown rfl) (fun _ _ h => h)
set_option maxHeartbeats 1000000 in
theorem take_yes (b m most : Nat) (L : List Hol) (x y : Int) (w : World) (h : Prm w b m most L) (hx : wfH (x, y)) (hr : L.length < most) (hn : (x, y) ∉ L) :
    Calls Try.prog 36 #[.pointer (some ⟨b, 0, none⟩), .agg #[.int .i64 x, .int .i64 y]] w fun r w' => r = .returned (.bool true) ∧ Frm (· = m) w w' ∧ Prm w' b m most (insH (x, y) L) := by
  have h1 := h.alloc (phobj (x, y))
  have hb1 := below_alloc w (phobj (x, y))
  have hd1 := heap_alloc_at w (phobj (x, y))
  generalize hW : w.alloc (phobj (x, y)) = w1 at *
  have hrm := room_prm b m most L w1 h1
  rw [decide_eq_true hr] at hrm
  have H1 := Lib.hid h1
  have HB := Lib.hid hb1
  have HD := Lib.hid hd1
  have HN := Lib.hid hn
  have HR := Lib.hid hr
  clear h h1 hb1 hd1 hn hr
  go_enter Try.func36, Try.ntmps36
  go_wp2_with fail
  refine hrm.mono ?_
  clear hrm
  rintro r w2 ⟨rfl, ha⟩
  have h2 := H1.out.ali ha
  have hho := holds_prm b m most L x y w2 h2 hx
  rw [decide_eq_false HN.out] at hho
  have hd2 := kb_below HD.out (ali_below ha)
  obtain ⟨d0, d1⟩ := hcells hd2
  have HB2 := Lib.hid (below_ali HB.out ha)
  have H2 := Lib.hid h2
  have HD2 := Lib.hid hd2
  clear h2 ha hd2
  go_wp2_with fail
  refine hho.mono ?_
  clear hho
  rintro r w3 ⟨rfl, hb3⟩
  have HB3 := Lib.hid (HB2.out.trans (hb3.mono HB2.out.size))
  have h3 := H2.out.below hb3
  have hd3 := kb_below HD2.out hb3
  clear d0 d1
  obtain ⟨c0, c1⟩ := h3.cells
  obtain ⟨d0, d1⟩ := hcells hd3
  have h8 := h3.le8
  have hlt := HR.out
  obtain ⟨w4, hst, hm4, ht4⟩ := MapH.store (w := w3.drew) (h3.mp.keep rfl) hx HN.out (by unfold maxLen; omega)
  unfold hv at hst
  have hf4 := frm_turned ht4
  have hp4 := h3.after hf4 hm4 (rise_insH h3.rise HN.out) (by rw [length_insH]; omega) (fun z hz => by rcases mem_insH.1 hz with rfl | hz; exact hx; exact h3.wf z hz)
  have HF : Hid (Frm (· = m) w w4) := Lib.hid ((Frm.of_below (F := (· = m)) HB3.out).trans hf4 (fun _ _ h => h))
  have HP := Lib.hid hp4
  clear hb3 h3 hd3 hm4 ht4 hf4 hp4 h8 hlt
  go_wp2
  go_region
  all_goals go_wp2
  all_goals go_ret
  all_goals exact ⟨rfl, HF.out, HP.out⟩
theorem take_none (x y : Int) (w : World) : Calls Try.prog 36 #[.pointer none, .agg #[.int .i64 x, .int .i64 y]] w fun r w' => r = .returned (.bool false) ∧ Below w.heap.size w w' := by
  have HB := Lib.hid (below_alloc w (phobj (x, y)))
  have hrm := room_none (w.alloc (phobj (x, y)))
  go_enter Try.func36, Try.ntmps36
  go_wp2_with fail
  refine hrm.mono ?_
  clear hrm
  rintro r w2 ⟨rfl, ha⟩
  have HB2 := Lib.hid (below_ali HB.out ha)
  clear ha
  go_wp2
  go_ret
  exact ⟨rfl, HB2.out⟩

set_option maxHeartbeats 1000000 in
theorem free_no (b m most : Nat) (L : List Hol) (x y : Int) (w : World) (h : Prm w b m most L) (hx : wfH (x, y)) (hno : (x, y) ∉ L) :
    Calls Try.prog 40 #[.pointer (some ⟨b, 0, none⟩), .agg #[.int .i64 x, .int .i64 y]] w fun r w' => r = .returned (.bool false) ∧ Below w.heap.size w w' := by
  have h1 := h.alloc (phobj (x, y))
  have hb1 := below_alloc w (phobj (x, y))
  have hd1 := heap_alloc_at w (phobj (x, y))
  generalize hW : w.alloc (phobj (x, y)) = w1 at *
  have hho := holds_prm b m most L x y w1 h1 hx
  rw [decide_eq_false hno] at hho
  obtain ⟨d0, d1⟩ := hcells hd1
  have HB := Lib.hid hb1
  clear h h1 hb1 hd1 hno
  go_enter Try.func40, Try.ntmps40
  go_wp2_with fail
  refine hho.mono ?_
  clear hho
  rintro r w2 ⟨rfl, hb2⟩
  have HB2 := Lib.hid (HB.out.trans (hb2.mono HB.out.size))
  clear hb2 d0 d1
  go_wp2
  go_ret
  exact ⟨rfl, HB2.out⟩
set_option maxHeartbeats 1000000 in
theorem free_yes (b m most : Nat) (L : List Hol) (x y : Int) (w : World) (h : Prm w b m most L) (hx : wfH (x, y)) (hin : (x, y) ∈ L) :
    Calls Try.prog 40 #[.pointer (some ⟨b, 0, none⟩), .agg #[.int .i64 x, .int .i64 y]] w fun r w' => r = .returned (.bool true) ∧ Frm (· = m) w w' ∧ Prm w' b m most (outH (x, y) L) := by
  have h1 := h.alloc (phobj (x, y))
  have hb1 := below_alloc w (phobj (x, y))
  have hd1 := heap_alloc_at w (phobj (x, y))
  generalize hW : w.alloc (phobj (x, y)) = w1 at *
  have hho := holds_prm b m most L x y w1 h1 hx
  rw [decide_eq_true hin] at hho
  obtain ⟨d0, d1⟩ := hcells hd1
  have H1 := Lib.hid h1
  have HB := Lib.hid hb1
  have HD := Lib.hid hd1
  have HIN := Lib.hid hin
  clear h h1 hb1 hd1 hin
  go_enter Try.func40, Try.ntmps40
  go_wp2_with fail
  refine hho.mono ?_
  clear hho
  rintro r w3 ⟨rfl, hb3⟩
  have HB3 := Lib.hid (HB.out.trans (hb3.mono HB.out.size))
  have h3 := H1.out.below hb3
  have hd3 := kb_below HD.out hb3
  clear d0 d1
  obtain ⟨c0, c1⟩ := h3.cells
  obtain ⟨d0, d1⟩ := hcells hd3
  obtain ⟨w4, hst, hm4, ht4⟩ := MapH.drop (w := w3.drew) (h3.mp.keep rfl) hx HIN.out h3.rise.nodup 0
  unfold hv at hst
  have hf4 := frm_turned ht4
  have hp4 := h3.after hf4 hm4 (rise_outH h3.rise) (Nat.le_trans (length_outH_le _ _) h3.le) (fun z hz => h3.wf z (mem_outH.1 hz).1)
  have HF : Hid (Frm (· = m) w w4) := Lib.hid ((Frm.of_below (F := (· = m)) HB3.out).trans hf4 (fun _ _ h => h))
  have HP := Lib.hid hp4
  clear hb3 h3 hd3 hm4 ht4 hf4 hp4
  go_wp2
  go_region
  all_goals go_wp2
  all_goals go_ret
  all_goals exact ⟨rfl, HF.out, HP.out⟩
theorem free_none (x y : Int) (w : World) : Calls Try.prog 40 #[.pointer none, .agg #[.int .i64 x, .int .i64 y]] w fun r w' => r = .returned (.bool false) ∧ Below w.heap.size w w' := by
  have hb1 := below_alloc w (phobj (x, y))
  have hd1 := heap_alloc_at w (phobj (x, y))
  generalize hW : w.alloc (phobj (x, y)) = w1 at *
  have hho := holds_none x y w1
  obtain ⟨d0, d1⟩ := hcells hd1
  have HB := Lib.hid hb1
  clear hb1 hd1
  go_enter Try.func40, Try.ntmps40
  go_wp2_with fail
  refine hho.mono ?_
  clear hho
  rintro r w2 ⟨rfl, hb2⟩
  have HB2 := Lib.hid (HB.out.trans (hb2.mono HB.out.size))
  clear hb2 d0 d1
  go_wp2
  go_ret
  exact ⟨rfl, HB2.out⟩
end Go.Proofs.Ytnmcnniilihecaa
