/- Contracts of package batch: Add. Written by wip/tools/gen_batadd.py. -/
import Derived.Test.YtpfmjocpgnoepaaBat
namespace Go.Proofs.Ytpfmjocpgnoepaa
set_option linter.unusedVariables false
open Go.ChangeShapes Go.WideShapes Go.ChangeAt Go.RowKit

theorem sets_b {w : World} {g : Nat} {ty : TypeId} {A M : Option Addr} {n c m d : Nat} (h : w.heap[g]? = some (bobj ty A n c M m d)) (A' M' : Option Addr) (n' c' m' d' : Nat) :
    ((w.setCell ⟨g, 0, none⟩ (.slice A' n' c')).setCell ⟨g, 1, none⟩ (.slice M' m' d')).heap[g]? = some (bobj ty A' n' c' M' m' d') := by
  rw [heap_set_same (heap_set_same h _)]
  rfl
theorem sets_bfrm (w : World) (g : Nat) (u0 u1 : Value) : Frm (· = g) w ((w.setCell ⟨g, 0, none⟩ u0).setCell ⟨g, 1, none⟩ u1) :=
  ((Frm.refl (· = g) w).set (F := (· = g)) (p := ⟨g, 0, none⟩) rfl u0).set (F := (· = g)) (p := ⟨g, 1, none⟩) rfl u1
theorem sizeB : (Try.prog.info? 34).map (·.size) = some 2 := by kernel_rfl
theorem onesB (A M : Option Addr) (n c m d : Nat) : Ones [.slice A n c, .slice M m d] := by intro v hv; simp at hv; rcases hv with rfl | rfl <;> rfl
/-- Two new blocks. -/
theorem two_new (w : World) (o o' : Obj) : ∃ W, (w.alloc o).alloc o' = W ∧ Below w.heap.size w W ∧ W.heap[w.heap.size]? = some o ∧ W.heap[w.heap.size + 1]? = some o' ∧ W.heap.size = w.heap.size + 2 := by
  refine ⟨_, rfl, (below_alloc w o).trans ((below_alloc _ o').mono (by simp)), kb_alloc (heap_alloc_at w o) o', ?_, by simp⟩
  have := heap_alloc_at (w.alloc o) o'
  rwa [show (w.alloc o).heap.size = w.heap.size + 1 by simp] at this
/-- What Add makes of a batch, and its word. -/
def addY (zs : List Int) (x most : Int) : Bool := decide (x ∈ zs ∨ ¬ most ≤ (zs.length : Int))
def addA (zs : List Int) (x most : Int) : List Int := if x ∈ zs then zs else if most ≤ (zs.length : Int) then zs else zs ++ [x]
def addM (zs : List Int) (ms : List P2) (id x most : Int) : List P2 := if x ∈ zs ∨ ¬ most ≤ (zs.length : Int) then ms ++ [⟨id, (zs.idxOf x : Int)⟩] else ms
theorem fits_snoc {ms : List P2} {x : P2} (h : ∀ y ∈ ms, y.Fits) (hx : x.Fits) : ∀ y ∈ ms ++ [x], y.Fits := fun y hy => by
  rcases List.mem_append.1 hy with hy | hy
  · exact h y hy
  · rw [List.mem_singleton.1 hy]; exact hx
theorem wf_small {k : Nat} (h : k ≤ 1000) : wf64 (k : Int) := ⟨by omega, by omega⟩
/-- A batch's cells stay. -/
theorem cells_later {w w' : World} {g : Nat} {ty : TypeId} {A M : Option Addr} {n c m d : Nat} (h : w.heap[g]? = some (bobj ty A n c M m d)) (hb : Below w.heap.size w w') : w'.cell? ⟨g, 0, none⟩ = some (.slice A n c) ∧ w'.cell? ⟨g, 1, none⟩ = some (.slice M m d) := bobj_cells (kb_below h hb)
/-- A batch's block holds no integers: rows of them are elsewhere. -/
theorem RowR.stayI {w w' : World} {A : Option Addr} {n g : Nat} {V : List Int} {ty : TypeId} {A' M' : Option Addr} {n' c' m' d' : Nat} (h : RowR irec w A n V) (hf : Frm (· = g) w w') (hg : w.heap[g]? = some (bobj ty A' n' c' M' m' d')) : RowR irec w' A n V := by
  by_cases h0 : n = 0
  · exact ⟨h.1, h.2.1, .inl h0⟩
  · obtain ⟨b, off, z, e, _, hc⟩ := h.int_at (i := 0) (by omega)
    refine h.frm hf (fun b' off' e' he => ?_)
    rw [e] at e'
    cases e'
    rw [show b = g from he, cell_of hg] at hc
    match off, hc with
    | 0, hc => simp at hc
    | 1, hc => simp at hc
    | k + 2, hc => simp at hc
theorem RowR.stayP {w w' : World} {A : Option Addr} {n g : Nat} {V : List P2} {ty : TypeId} {A' M' : Option Addr} {n' c' m' d' : Nat} (h : RowR prec w A n V) (hf : Frm (· = g) w w') (hg : w.heap[g]? = some (bobj ty A' n' c' M' m' d')) : RowR prec w' A n V := by
  by_cases h0 : n = 0
  · exact ⟨h.1, h.2.1, .inl h0⟩
  · obtain ⟨b, off, z, e, _, hc, _⟩ := h.pair_at (i := 0) (by omega)
    refine h.frm hf (fun b' off' e' he => ?_)
    rw [e] at e'
    cases e'
    rw [show b = g from he, cell_of hg] at hc
    match off, hc with
    | 0, hc => simp at hc
    | 1, hc => simp at hc
    | k + 2, hc => simp at hc
theorem Bat.stay {w w' : World} {A M : Option Addr} {n c m d g : Nat} {zs : List Int} {ms : List P2} {ty : TypeId} {A' M' : Option Addr} {n' c' m' d' : Nat} (h : Bat w A n c M m d zs ms) (hf : Frm (· = g) w w') (hg : w.heap[g]? = some (bobj ty A' n' c' M' m' d')) : Bat w' A n c M m d zs ms :=
  ⟨h.ar.stayI hf hg, h.mr.stayP hf hg, h.nc, h.md, h.fits⟩

set_option maxRecDepth 100000 in
set_option maxHeartbeats 2000000 in
theorem add_there (A : Option Addr) (n c : Nat) (M : Option Addr) (m d : Nat) (zs : List Int) (ms : List P2) (id x most : Int) (w : World) (h : Bat w A n c M m d zs ms) (hid : wf64 id) (hn : n ≤ 1000) (hm : m ≤ 1000) (hx : x ∈ zs) :
    Calls Try.prog 31 #[batV A n c M m d, .int .i64 id, .int .i64 x, .int .i64 most] w fun r w' => ∃ A' c' M' d', r = .returned (.tuple #[batV A' n c' M' (m + 1) d', .bool true]) ∧ Bat w' A' n c' M' (m + 1) d' zs (ms ++ [⟨id, (zs.idxOf x : Int)⟩]) ∧ (Fresh w.heap.size A' ∧ Fresh w.heap.size M') ∧ Below w.heap.size w w' := by
  have hpl : placeI zs x = (zs.idxOf x : Int) := if_pos hx
  have hql : zs.idxOf x ≤ 1000 := by have h1 := List.idxOf_le_length (a := x) (l := zs); have h2 := h.alen; omega
  generalize zs.idxOf x = q at *
  have hq0 : (0 : Int) ≤ q := by omega
  have hI : ∀ wx, Below w.heap.size w wx → Calls Try.prog 55 #[.slice A n c, .int .i64 x] wx fun r w' => r = .returned (.int .i64 (q : Int)) ∧ wx = w' := fun wx hb => by
    have := bindex_any A n c x zs wx (h.ar.later hb)
    rwa [hpl] at this
  have h1 : ∀ wx, Below w.heap.size w wx → Calls Try.prog 56 #[.slice A n c] wx fun r w' => ∃ A' c', r = .returned (.slice A' n c') ∧ RowR irec w' A' n zs ∧ n ≤ c' ∧ Fresh wx.heap.size A' ∧ Below wx.heap.size wx w' := fun wx hb => cloneI_any A n c zs wx (h.ar.later hb) hn
  have h2 : ∀ wx, Below w.heap.size w wx → Calls Try.prog 57 #[.slice M m d, .agg #[.int .i64 id, .int .i64 (q : Int)]] wx fun r w' => ∃ A' c', r = .returned (.slice A' (m + 1) c') ∧ RowR prec w' A' (m + 1) (ms ++ [⟨id, (q : Int)⟩]) ∧ m + 1 ≤ c' ∧ Fresh wx.heap.size A' ∧ Below wx.heap.size wx w' := fun wx hb => grownM_any M m d ⟨id, (q : Int)⟩ ms wx (h.mr.later hb) h.md hm
  have HB := Lib.hid h
  have HI := Lib.hid hI
  have H1 := Lib.hid h1
  have H2 := Lib.hid h2
  clear h hI hpl h1 h2
  obtain ⟨W, hW, hb, k0, k1, hsz⟩ := two_new w (bobj 34 A n c M m d) (bobj 34 none 0 0 none 0 0)
  obtain ⟨c0, c1⟩ := bobj_cells k0
  have B0 := Lib.hid hb
  have K0 := Lib.hid k0
  have K1 := Lib.hid k1
  have HW := Lib.hid hW
  clear hb k0 k1 hW hsz
  go_enter Try.func31, Try.ntmps31
  go_wp2_with fail
  rw [HW.out]
  refine (HI.out W B0.out).mono ?_
  rintro r wi ⟨rfl, hi⟩
  rw [← hi]
  clear hi wi HI HW
  go_wp2
  have K0' := K0
  have K1' := K1
  have B0' := B0
  clear c0 c1 K0 K1 B0
  have hs : ∀ wx, Below W.heap.size W wx → wx.cell? ⟨w.heap.size, 0, none⟩ = some (.slice A n c) ∧ wx.cell? ⟨w.heap.size, 1, none⟩ = some (.slice M m d) := fun wx hb => cells_later K0'.out hb
  have hst : ∀ (wx : World) (u v : Value), Below W.heap.size W wx → ((wx.setCell ⟨w.heap.size + 1, 0, none⟩ u).setCell ⟨w.heap.size + 1, 1, none⟩ v).cell? ⟨w.heap.size, 0, none⟩ = some (.slice A n c) ∧ ((wx.setCell ⟨w.heap.size + 1, 0, none⟩ u).setCell ⟨w.heap.size + 1, 1, none⟩ v).cell? ⟨w.heap.size, 1, none⟩ = some (.slice M m d) := fun wx u v hb => by
    have h0 := kb_below K0'.out hb
    exact bobj_cells (((sets_bfrm wx (w.heap.size + 1) u v).block w.heap.size (heap_lt h0) (by show ¬ (w.heap.size = w.heap.size + 1); omega)).trans h0)
  have HS := Lib.hid hs
  have HT := Lib.hid hst
  have D0 : Hid (Below W.heap.size W W.drew) := Lib.hid (ali_below (drew_ali _))
  clear hs hst
  go_region_held3 (fun wx => wx.cell? ⟨w.heap.size, 0, none⟩ = some (.slice A n c) ∧ wx.cell? ⟨w.heap.size, 1, none⟩ = some (.slice M m d))
    (first
      | with_reducible exact HS.out _ D0.out
      | with_reducible exact HS.out _ t5
      | with_reducible exact HS.out _ t4
      | (have tk := t5; exact HT.out _ _ _ tk))
    (first
      | (go_at_call 57; refine (H2.out _ (B0'.out.trans (t4.mono B0'.out.size))).mono ?_; rintro r w5 ⟨M5, d5, rfl, r5, k5, n5, b5⟩; have t5 := t4.trans (b5.mono t4.size); have N5 := Lib.hid (n5.mono (Nat.le_trans B0'.out.size t4.size)); clear n5; have R4' := Lib.hid (R4.out.later b5); have R5 := Lib.hid r5;
         have y5 := kb_below K1'.out t5; obtain ⟨y0, y1⟩ := bobj_cells y5; have yf0 := frozen_of y5 0; have yf1 := frozen_of y5 1; have Y5 := Lib.hid y5; clear r5 b5 y5)
      | (go_at_call 56; refine (H1.out _ (B0'.out.trans (D0.out.mono B0'.out.size))).mono ?_; rintro r w4 ⟨A4, c4, rfl, r4, k4, n4, b4⟩; have N4 := Lib.hid (n4.mono (Nat.le_trans B0'.out.size D0.out.size)); clear n4; have t4 := D0.out.trans (b4.mono D0.out.size); have R4 := Lib.hid r4; clear r4 b4))
  all_goals
    have h8 := sets_b Y5.out A4 M5 n c4 (m + 1) d5
    have f8 := sets_bfrm w5 (w.heap.size + 1) (.slice A4 n c4) (.slice M5 (m + 1) d5)
    have H8 := Lib.hid h8
    have T5 := Lib.hid t5
    have F8 := Lib.hid f8
    clear h8 f8 y0 y1 yf0 yf1 t4 t5
    generalize ((w5.setCell ⟨w.heap.size + 1, 0, none⟩ (.slice A4 n c4)).setCell ⟨w.heap.size + 1, 1, none⟩ (.slice M5 (m + 1) d5)) = w8 at *
    go_wp2
    refine bodyPost_ret (v := .tuple #[batV A4 n c4 M5 (m + 1) d5, .bool true]) (results_agg1 Try.results31 rfl (loadB H8.out) rfl) rfl ?_
    have hb := B0'.out.size
    have hlt : w.heap.size + 1 < w5.heap.size := heap_lt Y5.out
    have B5 : Below w.heap.size w w5 := B0'.out.trans (T5.out.mono B0'.out.size)
    have B8 : Below w.heap.size w w8 := B5.trans (F8.out.below (by omega) (fun j hj e => by rw [e] at hj; omega))
    have stay : ∀ {j : Nat} {cs : Array Value} {t : TypeId}, w5.heap[j]? = some (.cells cs t) → t ≠ 34 → w8.heap[j]? = some (.cells cs t) := fun {j cs t} hj ht => (F8.out.block j (heap_lt hj) (fun e => ht (by rw [e, Y5.out] at hj; cases hj; rfl))).trans hj
    exact ⟨_, _, _, _, rfl, ⟨R4'.out.stayI F8.out Y5.out, R5.out.stayP F8.out Y5.out, k4, k5, fits_snoc HB.out.fits ⟨hid, wf_small hql⟩⟩, ⟨N4.out, N5.out⟩, B8⟩

set_option maxRecDepth 100000 in
set_option maxHeartbeats 2000000 in
theorem add_full (A : Option Addr) (n c : Nat) (M : Option Addr) (m d : Nat) (zs : List Int) (ms : List P2) (id x most : Int) (w : World) (h : Bat w A n c M m d zs ms) (hid : wf64 id) (hn : n ≤ 1000) (hm : m ≤ 1000) (hx : x ∉ zs) (hf : most ≤ (n : Int)) :
    Calls Try.prog 31 #[batV A n c M m d, .int .i64 id, .int .i64 x, .int .i64 most] w fun r w' => ∃ A' c' M' d', r = .returned (.tuple #[batV A' n c' M' m d', .bool false]) ∧ Bat w' A' n c' M' m d' zs ms ∧ (Fresh w.heap.size A' ∧ Fresh w.heap.size M') ∧ Below w.heap.size w w' := by
  have hpl : placeI zs x = -1 := if_neg hx
  have hI : ∀ wx, Below w.heap.size w wx → Calls Try.prog 55 #[.slice A n c, .int .i64 x] wx fun r w' => r = .returned (.int .i64 (-1)) ∧ wx = w' := fun wx hb => by
    have := bindex_any A n c x zs wx (h.ar.later hb)
    rwa [hpl] at this
  have h1 : ∀ wx, Below w.heap.size w wx → Calls Try.prog 56 #[.slice A n c] wx fun r w' => ∃ A' c', r = .returned (.slice A' n c') ∧ RowR irec w' A' n zs ∧ n ≤ c' ∧ Fresh wx.heap.size A' ∧ Below wx.heap.size wx w' := fun wx hb => cloneI_any A n c zs wx (h.ar.later hb) hn
  have h2 : ∀ wx, Below w.heap.size w wx → Calls Try.prog 58 #[.slice M m d] wx fun r w' => ∃ A' c', r = .returned (.slice A' m c') ∧ RowR prec w' A' m ms ∧ m ≤ c' ∧ Fresh wx.heap.size A' ∧ Below wx.heap.size wx w' := fun wx hb => cloneM_any M m d ms wx (h.mr.later hb) hm
  have hF : ∀ wx, Calls Try.prog 38 #[batV A n c M m d, .int .i64 most] wx fun r w' => r = .returned (.bool true) ∧ Below wx.heap.size wx w' := fun wx => by
    have := bfull_any A n c M m d most wx
    rwa [decide_eq_true hf] at this
  have HF := Lib.hid hF
  clear hF
  have HB := Lib.hid h
  have HI := Lib.hid hI
  have H1 := Lib.hid h1
  have H2 := Lib.hid h2
  clear h hI hpl h1 h2
  obtain ⟨W, hW, hb, k0, k1, hsz⟩ := two_new w (bobj 34 A n c M m d) (bobj 34 none 0 0 none 0 0)
  obtain ⟨c0, c1⟩ := bobj_cells k0
  have B0 := Lib.hid hb
  have K0 := Lib.hid k0
  have K1 := Lib.hid k1
  have HW := Lib.hid hW
  clear hb k0 k1 hW hsz
  go_enter Try.func31, Try.ntmps31
  go_wp2_with fail
  rw [HW.out]
  refine (HI.out W B0.out).mono ?_
  rintro r wi ⟨rfl, hi⟩
  rw [← hi]
  clear hi wi HI HW
  go_wp2_with fail
  refine (HF.out W).mono ?_
  rintro r V ⟨rfl, bV⟩
  have K0' := Lib.hid (kb_below K0.out bV)
  have K1' := Lib.hid (kb_below K1.out bV)
  have B0' := Lib.hid (B0.out.trans (bV.mono B0.out.size))
  clear c0 c1 K0 K1 B0 bV HF
  go_wp2
  have hs : ∀ wx, Below V.heap.size V wx → wx.cell? ⟨w.heap.size, 0, none⟩ = some (.slice A n c) ∧ wx.cell? ⟨w.heap.size, 1, none⟩ = some (.slice M m d) := fun wx hb => cells_later K0'.out hb
  have hst : ∀ (wx : World) (u v : Value), Below V.heap.size V wx → ((wx.setCell ⟨w.heap.size + 1, 0, none⟩ u).setCell ⟨w.heap.size + 1, 1, none⟩ v).cell? ⟨w.heap.size, 0, none⟩ = some (.slice A n c) ∧ ((wx.setCell ⟨w.heap.size + 1, 0, none⟩ u).setCell ⟨w.heap.size + 1, 1, none⟩ v).cell? ⟨w.heap.size, 1, none⟩ = some (.slice M m d) := fun wx u v hb => by
    have h0 := kb_below K0'.out hb
    exact bobj_cells (((sets_bfrm wx (w.heap.size + 1) u v).block w.heap.size (heap_lt h0) (by show ¬ (w.heap.size = w.heap.size + 1); omega)).trans h0)
  have HS := Lib.hid hs
  have HT := Lib.hid hst
  have D0 : Hid (Below V.heap.size V V.drew) := Lib.hid (ali_below (drew_ali _))
  clear hs hst
  go_region_held3 (fun wx => wx.cell? ⟨w.heap.size, 0, none⟩ = some (.slice A n c) ∧ wx.cell? ⟨w.heap.size, 1, none⟩ = some (.slice M m d))
    (first
      | with_reducible exact HS.out _ D0.out
      | with_reducible exact HS.out _ t5
      | with_reducible exact HS.out _ t4
      | (have tk := t5; exact HT.out _ _ _ tk))
    (first
      | (go_at_call 58; refine (H2.out _ (B0'.out.trans (t4.mono B0'.out.size))).mono ?_; rintro r w5 ⟨M5, d5, rfl, r5, k5, n5, b5⟩; have t5 := t4.trans (b5.mono t4.size); have N5 := Lib.hid (n5.mono (Nat.le_trans B0'.out.size t4.size)); clear n5; have R4' := Lib.hid (R4.out.later b5); have R5 := Lib.hid r5;
         have y5 := kb_below K1'.out t5; obtain ⟨y0, y1⟩ := bobj_cells y5; have yf0 := frozen_of y5 0; have yf1 := frozen_of y5 1; have Y5 := Lib.hid y5; clear r5 b5 y5)
      | (go_at_call 56; refine (H1.out _ (B0'.out.trans (D0.out.mono B0'.out.size))).mono ?_; rintro r w4 ⟨A4, c4, rfl, r4, k4, n4, b4⟩; have N4 := Lib.hid (n4.mono (Nat.le_trans B0'.out.size D0.out.size)); clear n4; have t4 := D0.out.trans (b4.mono D0.out.size); have R4 := Lib.hid r4; clear r4 b4))
  all_goals
    have h8 := sets_b Y5.out A4 M5 n c4 m d5
    have f8 := sets_bfrm w5 (w.heap.size + 1) (.slice A4 n c4) (.slice M5 m d5)
    have H8 := Lib.hid h8
    have T5 := Lib.hid t5
    have F8 := Lib.hid f8
    clear h8 f8 y0 y1 yf0 yf1 t4 t5
    generalize ((w5.setCell ⟨w.heap.size + 1, 0, none⟩ (.slice A4 n c4)).setCell ⟨w.heap.size + 1, 1, none⟩ (.slice M5 m d5)) = w8 at *
    go_wp2
    refine bodyPost_ret (v := .tuple #[batV A4 n c4 M5 m d5, .bool false]) (results_agg1 Try.results31 rfl (loadB H8.out) rfl) rfl ?_
    have hb := B0'.out.size
    have hlt : w.heap.size + 1 < w5.heap.size := heap_lt Y5.out
    have B5 : Below w.heap.size w w5 := B0'.out.trans (T5.out.mono B0'.out.size)
    have B8 : Below w.heap.size w w8 := B5.trans (F8.out.below (by omega) (fun j hj e => by rw [e] at hj; omega))
    have stay : ∀ {j : Nat} {cs : Array Value} {t : TypeId}, w5.heap[j]? = some (.cells cs t) → t ≠ 34 → w8.heap[j]? = some (.cells cs t) := fun {j cs t} hj ht => (F8.out.block j (heap_lt hj) (fun e => ht (by rw [e, Y5.out] at hj; cases hj; rfl))).trans hj
    exact ⟨_, _, _, _, rfl, ⟨R4'.out.stayI F8.out Y5.out, R5.out.stayP F8.out Y5.out, k4, k5, HB.out.fits⟩, ⟨N4.out, N5.out⟩, B8⟩

set_option maxRecDepth 100000 in
set_option maxHeartbeats 2000000 in
theorem add_more (A : Option Addr) (n c : Nat) (M : Option Addr) (m d : Nat) (zs : List Int) (ms : List P2) (id x most : Int) (w : World) (h : Bat w A n c M m d zs ms) (hid : wf64 id) (hn : n ≤ 1000) (hm : m ≤ 1000) (hx : x ∉ zs) (hf : ¬ most ≤ (n : Int)) :
    Calls Try.prog 31 #[batV A n c M m d, .int .i64 id, .int .i64 x, .int .i64 most] w fun r w' => ∃ A' c' M' d', r = .returned (.tuple #[batV A' (n + 1) c' M' (m + 1) d', .bool true]) ∧ Bat w' A' (n + 1) c' M' (m + 1) d' (zs ++ [x]) (ms ++ [⟨id, (n : Int)⟩]) ∧ (Fresh w.heap.size A' ∧ Fresh w.heap.size M') ∧ Below w.heap.size w w' := by
  have hpl : placeI zs x = -1 := if_neg hx
  have hI : ∀ wx, Below w.heap.size w wx → Calls Try.prog 55 #[.slice A n c, .int .i64 x] wx fun r w' => r = .returned (.int .i64 (-1)) ∧ wx = w' := fun wx hb => by
    have := bindex_any A n c x zs wx (h.ar.later hb)
    rwa [hpl] at this
  have h1 : ∀ wx, Below w.heap.size w wx → Calls Try.prog 59 #[.slice A n c, .int .i64 x] wx fun r w' => ∃ A' c', r = .returned (.slice A' (n + 1) c') ∧ RowR irec w' A' (n + 1) (zs ++ [x]) ∧ n + 1 ≤ c' ∧ Fresh wx.heap.size A' ∧ Below wx.heap.size wx w' := fun wx hb => grownI_any A n c x zs wx (h.ar.later hb) h.nc hn
  have h2 : ∀ wx, Below w.heap.size w wx → Calls Try.prog 57 #[.slice M m d, .agg #[.int .i64 id, .int .i64 (n : Int)]] wx fun r w' => ∃ A' c', r = .returned (.slice A' (m + 1) c') ∧ RowR prec w' A' (m + 1) (ms ++ [⟨id, (n : Int)⟩]) ∧ m + 1 ≤ c' ∧ Fresh wx.heap.size A' ∧ Below wx.heap.size wx w' := fun wx hb => grownM_any M m d ⟨id, (n : Int)⟩ ms wx (h.mr.later hb) h.md hm
  have hF : ∀ wx, Calls Try.prog 38 #[batV A n c M m d, .int .i64 most] wx fun r w' => r = .returned (.bool false) ∧ Below wx.heap.size wx w' := fun wx => by
    have := bfull_any A n c M m d most wx
    rwa [decide_eq_false hf] at this
  have HF := Lib.hid hF
  clear hF
  have HB := Lib.hid h
  have HI := Lib.hid hI
  have H1 := Lib.hid h1
  have H2 := Lib.hid h2
  clear h hI hpl h1 h2
  obtain ⟨W, hW, hb, k0, k1, hsz⟩ := two_new w (bobj 34 A n c M m d) (bobj 34 none 0 0 none 0 0)
  obtain ⟨c0, c1⟩ := bobj_cells k0
  have B0 := Lib.hid hb
  have K0 := Lib.hid k0
  have K1 := Lib.hid k1
  have HW := Lib.hid hW
  clear hb k0 k1 hW hsz
  go_enter Try.func31, Try.ntmps31
  go_wp2_with fail
  rw [HW.out]
  refine (HI.out W B0.out).mono ?_
  rintro r wi ⟨rfl, hi⟩
  rw [← hi]
  clear hi wi HI HW
  go_wp2_with fail
  refine (HF.out W).mono ?_
  rintro r V ⟨rfl, bV⟩
  have K0' := Lib.hid (kb_below K0.out bV)
  have K1' := Lib.hid (kb_below K1.out bV)
  have B0' := Lib.hid (B0.out.trans (bV.mono B0.out.size))
  clear c0 c1 K0 K1 B0 bV HF
  go_wp2
  have hs : ∀ wx, Below V.heap.size V wx → wx.cell? ⟨w.heap.size, 0, none⟩ = some (.slice A n c) ∧ wx.cell? ⟨w.heap.size, 1, none⟩ = some (.slice M m d) := fun wx hb => cells_later K0'.out hb
  have hst : ∀ (wx : World) (u v : Value), Below V.heap.size V wx → ((wx.setCell ⟨w.heap.size + 1, 0, none⟩ u).setCell ⟨w.heap.size + 1, 1, none⟩ v).cell? ⟨w.heap.size, 0, none⟩ = some (.slice A n c) ∧ ((wx.setCell ⟨w.heap.size + 1, 0, none⟩ u).setCell ⟨w.heap.size + 1, 1, none⟩ v).cell? ⟨w.heap.size, 1, none⟩ = some (.slice M m d) := fun wx u v hb => by
    have h0 := kb_below K0'.out hb
    exact bobj_cells (((sets_bfrm wx (w.heap.size + 1) u v).block w.heap.size (heap_lt h0) (by show ¬ (w.heap.size = w.heap.size + 1); omega)).trans h0)
  have HS := Lib.hid hs
  have HT := Lib.hid hst
  have D0 : Hid (Below V.heap.size V V.drew) := Lib.hid (ali_below (drew_ali _))
  clear hs hst
  go_region_held3 (fun wx => wx.cell? ⟨w.heap.size, 0, none⟩ = some (.slice A n c) ∧ wx.cell? ⟨w.heap.size, 1, none⟩ = some (.slice M m d))
    (first
      | with_reducible exact HS.out _ D0.out
      | with_reducible exact HS.out _ t5
      | with_reducible exact HS.out _ t4
      | (have tk := t5; exact HT.out _ _ _ tk))
    (first
      | (go_at_call 57; refine (H2.out _ (B0'.out.trans (t4.mono B0'.out.size))).mono ?_; rintro r w5 ⟨M5, d5, rfl, r5, k5, n5, b5⟩; have t5 := t4.trans (b5.mono t4.size); have N5 := Lib.hid (n5.mono (Nat.le_trans B0'.out.size t4.size)); clear n5; have R4' := Lib.hid (R4.out.later b5); have R5 := Lib.hid r5;
         have y5 := kb_below K1'.out t5; obtain ⟨y0, y1⟩ := bobj_cells y5; have yf0 := frozen_of y5 0; have yf1 := frozen_of y5 1; have Y5 := Lib.hid y5; clear r5 b5 y5)
      | (go_at_call 59; refine (H1.out _ (B0'.out.trans (D0.out.mono B0'.out.size))).mono ?_; rintro r w4 ⟨A4, c4, rfl, r4, k4, n4, b4⟩; have N4 := Lib.hid (n4.mono (Nat.le_trans B0'.out.size D0.out.size)); clear n4; have t4 := D0.out.trans (b4.mono D0.out.size); have R4 := Lib.hid r4; clear r4 b4))
  all_goals
    have h8 := sets_b Y5.out A4 M5 (n + 1) c4 (m + 1) d5
    have f8 := sets_bfrm w5 (w.heap.size + 1) (.slice A4 (n + 1) c4) (.slice M5 (m + 1) d5)
    have H8 := Lib.hid h8
    have T5 := Lib.hid t5
    have F8 := Lib.hid f8
    clear h8 f8 y0 y1 yf0 yf1 t4 t5
    generalize ((w5.setCell ⟨w.heap.size + 1, 0, none⟩ (.slice A4 (n + 1) c4)).setCell ⟨w.heap.size + 1, 1, none⟩ (.slice M5 (m + 1) d5)) = w8 at *
    go_wp2
    refine bodyPost_ret (v := .tuple #[batV A4 (n + 1) c4 M5 (m + 1) d5, .bool true]) (results_agg1 Try.results31 rfl (loadB H8.out) rfl) rfl ?_
    have hb := B0'.out.size
    have hlt : w.heap.size + 1 < w5.heap.size := heap_lt Y5.out
    have B5 : Below w.heap.size w w5 := B0'.out.trans (T5.out.mono B0'.out.size)
    have B8 : Below w.heap.size w w8 := B5.trans (F8.out.below (by omega) (fun j hj e => by rw [e] at hj; omega))
    have stay : ∀ {j : Nat} {cs : Array Value} {t : TypeId}, w5.heap[j]? = some (.cells cs t) → t ≠ 34 → w8.heap[j]? = some (.cells cs t) := fun {j cs t} hj ht => (F8.out.block j (heap_lt hj) (fun e => ht (by rw [e, Y5.out] at hj; cases hj; rfl))).trans hj
    exact ⟨_, _, _, _, rfl, ⟨R4'.out.stayI F8.out Y5.out, R5.out.stayP F8.out Y5.out, k4, k5, fits_snoc HB.out.fits ⟨hid, wf_small hn⟩⟩, ⟨N4.out, N5.out⟩, B8⟩

/-- Whatever is added. -/
theorem badd_any (A : Option Addr) (n c : Nat) (M : Option Addr) (m d : Nat) (zs : List Int) (ms : List P2) (id x most : Int) (w : World) (h : Bat w A n c M m d zs ms) (hid : wf64 id) (hn : n ≤ 1000) (hm : m ≤ 1000) :
    Calls Try.prog 31 #[batV A n c M m d, .int .i64 id, .int .i64 x, .int .i64 most] w fun r w' => ∃ A' n' c' M' m' d', r = .returned (.tuple #[batV A' n' c' M' m' d', .bool (addY zs x most)]) ∧ Bat w' A' n' c' M' m' d' (addA zs x most) (addM zs ms id x most) ∧ (Fresh w.heap.size A' ∧ Fresh w.heap.size M') ∧ Below w.heap.size w w' := by
  have hl := h.alen
  by_cases hx : x ∈ zs
  · refine (add_there A n c M m d zs ms id x most w h hid hn hm hx).mono ?_
    rintro r w' ⟨A', c', M', d', rfl, hb, hfr, hl⟩
    have e1 : addY zs x most = true := by simp [addY, hx]
    have e2 : addA zs x most = zs := by simp [addA, hx]
    have e3 : addM zs ms id x most = ms ++ [⟨id, (zs.idxOf x : Int)⟩] := by simp [addM, hx]
    rw [e1, e2, e3]
    exact ⟨_, _, _, _, _, _, rfl, hb, hfr, hl⟩
  · by_cases hf : most ≤ (n : Int)
    · have hf' : most ≤ (zs.length : Int) := by rw [hl]; exact hf
      refine (add_full A n c M m d zs ms id x most w h hid hn hm hx hf).mono ?_
      rintro r w' ⟨A', c', M', d', rfl, hb, hfr, hl⟩
      have e1 : addY zs x most = false := by simp [addY, hx, hf']
      have e2 : addA zs x most = zs := by simp [addA, hx, hf']
      have e3 : addM zs ms id x most = ms := by simp [addM, hx, hf']
      rw [e1, e2, e3]
      exact ⟨_, _, _, _, _, _, rfl, hb, hfr, hl⟩
    · have hf' : ¬ most ≤ (zs.length : Int) := by rw [hl]; exact hf
      refine (add_more A n c M m d zs ms id x most w h hid hn hm hx hf).mono ?_
      rintro r w' ⟨A', c', M', d', rfl, hb, hfr, hl'⟩
      have e1 : addY zs x most = true := by unfold addY; rw [decide_eq_true]; exact .inr hf'
      have e2 : addA zs x most = zs ++ [x] := by unfold addA; rw [if_neg hx, if_neg hf']
      have e3 : addM zs ms id x most = ms ++ [⟨id, (n : Int)⟩] := by unfold addM; rw [if_pos (.inr hf'), List.idxOf_eq_length hx, hl]
      rw [e1, e2, e3]
      exact ⟨_, _, _, _, _, _, rfl, hb, hfr, hl'⟩
end Go.Proofs.Ytpfmjocpgnoepaa
