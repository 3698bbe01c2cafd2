/- Contracts of porpoiseref12: Close. -/
import Derived.Test.YtlphahkmibhidaaRef12
namespace Go.Proofs.Ytlphahkmibhidaa
set_option linter.unusedVariables false
open Go.ChangeShapes Go.WideShapes Go.ChangeAt Go.RowKit

theorem setX0 {w : World} {g n c m d : Nat} {A B : Option Addr} (h : w.heap[g]? = some (vobj 29 (RC.mk A n c B m d).vals)) (A' : Option Addr) (n' c' : Nat) : (w.setCell ⟨g, 0, none⟩ (.slice A' n' c')).heap[g]? = some (vobj 29 (RC.mk A' n' c' B m d).vals) := by
  rw [vobj_set h 0 _]; rfl
theorem setX1 {w : World} {g n c m d : Nat} {A B : Option Addr} (h : w.heap[g]? = some (vobj 29 (RC.mk A n c B m d).vals)) (B' : Option Addr) (m' d' : Nat) : (w.setCell ⟨g, 1, none⟩ (.slice B' m' d')).heap[g]? = some (vobj 29 (RC.mk A n c B' m' d').vals) := by
  rw [vobj_set h 1 _]; rfl
/-- A block that holds other cells than those of a row stays while that row grows. -/
theorem grown_kept {α : Type} {R : Rec α} {w w' : World} {base : Nat} {e t : TypeId} {v : Value} {V : List α} (own : OwnR R w base e v V) (gr : w.grownBy w' v.ownBlock) {j : Nat} {cs : Array Value} {z : Nat × Nat} (hj : w.heap[j]? = some (.cells cs t z)) (ht : t ≠ e) : w'.heap[j]? = some (.cells cs t z) := by
  refine (gr.block j (heap_lt hj) (fun h => ?_)).trans hj
  obtain ⟨cs', hc'⟩ := own.block h.symm
  rw [hj] at hc'
  injection hc' with hc'
  injection hc' with _ hc'
  exact ht hc'
/-- What the loop of Close knows. -/
structure RClo (w wr : World) (g : Nat) (S : CA) (s : Int) (A : Option Addr) (n c : Nat) (B : Option Addr) (m d : Nat) (j : Nat) (A' : Option Addr) (n' c' : Nat) : Prop where
  own : EntR wr w.heap.size (.slice A' n' c') ((S.E.take j).filter (fun e => !decide (e.k.a = s)))
  out : wr.heap[g + 2]? = some (vobj 29 (RC.mk A' n' c' B m d).vals)
  src : wr.heap[g]? = some (vobj 29 (RC.mk A n c B m d).vals)
  res : wr.heap[g + 1]? = some (vobj 29 RC.zero.vals)
  low : Below w.heap.size w wr
theorem filter_le {α : Type} (p : α → Bool) (V : List α) (j : Nat) : ((V.take j).filter p).length ≤ V.length := by
  have h1 := List.length_filter_le p (V.take j)
  rw [List.length_take] at h1
  omega
set_option maxRecDepth 100000 in
set_option maxHeartbeats 4000000 in
theorem rclose_any (X : RC) (base : Nat) (S : CA) (s : Int) (w : World) (h : X.Is w base S) (hb : base ≤ w.heap.size) (hs : S.size ≤ 1000) :
    Calls Try.prog 22 #[.agg (aggV X.vals), .int .i64 s] w fun r w' => ∃ Y : RC, r = .returned (.tuple #[.agg (aggV Y.vals), .int .i64 (S.closed s)]) ∧ Y.Is w' base (S.close s) ∧ Below w.heap.size w w' := by
  obtain ⟨g, hg⟩ : ∃ g, w.heap.size = g := ⟨_, rfl⟩
  obtain ⟨A, n, c, B, m, d⟩ := X
  obtain ⟨fs, hu⟩ := undX
  have HU := Lib.hid hu
  have hnl : n ≤ 1000 := by have := h.rowE.1; simp only at this; unfold CA.size at hs; omega
  have hlE : S.E.length = n := h.rowE.1
  have IS := Lib.hid h
  have HB := Lib.hid hb
  have LE := Lib.hid hlE
  clear hu h hb hs hlE
  go_enter Try.func22, Try.ntmps22
  go_wp2_with (first
    | (refine wpList_box_agg rfl 29 _ rfl g hg (RC.mk A n c B m d).vals rfl ?_; intro w1 h1 l1 t1)
    | (refine wpList_alloc_agg rfl 29 rfl (g + 1) t1 RC.zero.vals (allocX _) ?_; intro w2 h2 l2 t2; obtain ⟨c0, c1⟩ := RC.cells_vals ((l2.block g (by omega)).trans h1))
    | (refine wpList_alloc_agg rfl 29 rfl (g + 2) t2 RC.zero.vals (allocX _) ?_; intro w3 h3 l3 t3)
    | (refine wpList_store_agg rfl 29 _ _ rfl (g + 2) RC.zero.vals (RC.mk none 0 0 B m d).vals rfl rfl ?hz rfl (sizeX _) (RC.ones_vals _) ?_; (case hz => exact h3); intro w4 h4 f4 t4))
  have ST : Hid (RClo w w4 g S s A n c B m d 0 none 0 0) := Lib.hid (by
    subst hg
    refine ⟨OwnR.nil _ _ _, h4, ?_, ?_, (l1.trans (l2.mono (by omega))).trans ((l3.mono (by omega)).trans (f4.below (by omega) (fun j hj e => by have e' : j = w.heap.size + 2 := e; omega)))⟩
    · rw [f4.block _ (by omega) (show ¬ (w.heap.size = w.heap.size + 2) by omega)]
      exact ((l3.block _ (by omega)).trans (l2.block _ (by omega))).trans h1
    · rw [f4.block _ (by omega) (show ¬ (w.heap.size + 1 = w.heap.size + 2) by omega)]
      exact (l3.block _ (by omega)).trans h2)
  clear c0 c1 h1 h2 h3 h4 l1 l2 l3 f4 t1 t2 t3 t4
  go_loopg [7] n (fun q v7 wr => ∃ (j : Nat) (A' : Option Addr) (n' c' : Nat), j + q = n ∧ v7 = .int .i64 j ∧ RClo w wr g S s A n c B m d j A' n' c')
  case atStart => exact ⟨0, none, 0, 0, by omega, rfl, ST.out⟩
  case round =>
    obtain ⟨j, A', n', c', hj, rfl, hr⟩ := hrel
    have HJ := Lib.hid hj
    have HR := Lib.hid hr
    obtain ⟨c0, c1⟩ := RC.cells_vals hr.src
    obtain ⟨o0, o1⟩ := RC.cells_vals hr.out
    simp only at c0 c1 o0 o1
    have ISR := Lib.hid (IS.out.below hr.low)
    clear hj hr ST
    by_cases hlt : j < n
    · have hlt' : (j : Int) < n := by omega
      obtain ⟨eb, off, e, rfl, hV, hrg⟩ := ISR.out.rowE.ent hlt
      obtain ⟨q0, q1, q2, q3, q4, q5, q6, q7⟩ := row_cells hrg
      have HV := Lib.hid hV
      clear hV hrg
      by_cases hc : e.k.a = s
      · have hdc : (e.k.a == s) = true := by simp [hc]
        have HC := Lib.hid hc
        clear hc
        go_wp2
        go_roundg (n - (j + 1))
        case measure => have := HJ.out; omega
        case rel =>
          refine ⟨j + 1, A', n', c', by omega, by simp, ?_, HR.out.out, HR.out.src, HR.out.res, HR.out.low⟩
          rw [take_more HV.out, List.filter_append]
          simpa [HC.out] using HR.out.own
      · have hdc : (e.k.a == s) = false := by simp [hc]
        have HC := Lib.hid hc
        have o0' : (wr.alloc (.cells #[.int .i64 e.k.a, .int .i64 e.k.b, .int .i64 e.k.c, .int .i64 e.id, .bool e.done, .int .i64 e.t.a, .int .i64 e.t.b, .int .i64 e.t.c] 41)).cell? ⟨g + 2, 0, none⟩ = some (.slice A' n' c') := cell_alloc o0 _
        have OWN : Hid (EntR (wr.alloc (.cells #[.int .i64 e.k.a, .int .i64 e.k.b, .int .i64 e.k.c, .int .i64 e.id, .bool e.done, .int .i64 e.t.a, .int .i64 e.t.b, .int .i64 e.t.c] 41)).drew w.heap.size (.slice A' n' c') ((S.E.take j).filter (fun e => !decide (e.k.a = s)))) := Lib.hid ((HR.out.own.alloc _).ali (drew_ali _))
        have SRC : Hid (RowR erec (wr.alloc (.cells #[.int .i64 e.k.a, .int .i64 e.k.b, .int .i64 e.k.c, .int .i64 e.id, .bool e.done, .int .i64 e.t.a, .int .i64 e.t.b, .int .i64 e.t.c] 41)).drew (some ⟨wr.heap.size, 0, none⟩) 1 [e]) := Lib.hid ((RowR.one (R := erec) wr e 41 rfl).ali (drew_ali _))
        have BW : Hid (Below wr.heap.size wr (wr.alloc (.cells #[.int .i64 e.k.a, .int .i64 e.k.b, .int .i64 e.k.c, .int .i64 e.id, .bool e.done, .int .i64 e.t.a, .int .i64 e.t.b, .int .i64 e.t.c] 41)).drew) := Lib.hid (below_ali (below_alloc _ _) (drew_ali _))
        have HS1 : Hid (w.heap.size ≤ (wr.alloc (.cells #[.int .i64 e.k.a, .int .i64 e.k.b, .int .i64 e.k.c, .int .i64 e.id, .bool e.done, .int .i64 e.t.a, .int .i64 e.t.b, .int .i64 e.t.c] 41)).drew.heap.size) := Lib.hid (Nat.le_trans HR.out.low.size BW.out.size)
        have LT : Hid (((S.E.take j).filter (fun e => !decide (e.k.a = s))).length + 1 ≤ 1048576) := Lib.hid (by have := filter_le (fun e : CE => !decide (e.k.a = s)) S.E j; have := LE.out; omega)
        obtain ⟨i0, hi0, hz0, hz1, hz2⟩ := ent_parts
        clear hc
        go_wp2
        go_region_law (first
          | (refine appR_step (P := Try.prog) (R := erec) rfl (.tmp 28) (.tmp 34) rfl ent_slice hi0 hz0 hz1 hz2 rfl (by decide) (base := w.heap.size) rfl rfl OWN.out SRC.out LT.out HS1.out ?_
             intro v' w' own' gr' ob'
             obtain ⟨A2, n2, c2, hv2, _, _, _, _⟩ := own'.row'
             subst hv2
             have b5 := grown_kept OWN.out gr' (kb_below HR.out.out BW.out) (by decide)
             have p5 : w'.cell? ⟨g + 2, 0, none⟩ = some (.slice A' n' c') := (by rw [cell_of b5]; rfl)
             have f5 := frozen_of b5 0
             have B5 := Lib.hid b5
             have S5 := Lib.hid (grown_kept OWN.out gr' (kb_below HR.out.src BW.out) (by decide))
             have R5 := Lib.hid (grown_kept OWN.out gr' (kb_below HR.out.res BW.out) (by decide))
             have L5 := Lib.hid ((HR.out.low.trans (BW.out.mono HR.out.low.size)).trans (grown_low gr' HS1.out OWN.out.low))
             have O5 := Lib.hid own'
             clear own' gr' ob' b5))
        all_goals go_wp2
        all_goals go_roundg (n - (j + 1))
        all_goals first
          | (have := HJ.out; omega)
          | (refine ⟨j + 1, A2, n2, c2, by omega, by simp, ?_, setX0 B5.out A2 n2 c2, (heap_set_other (show g ≠ g + 2 by omega) _).trans S5.out, (heap_set_other (show g + 1 ≠ g + 2 by omega) _).trans R5.out, ?_⟩
             · rw [take_more HV.out, List.filter_append, show [e].filter (fun e => !decide (e.k.a = s)) = [e] by simp [HC.out]]
               exact O5.out.frm ((Frm.refl (· = g + 2) w').set (p := ⟨g + 2, 0, none⟩) rfl _) (fun i hi cs hcs => by
                 have hi' : i = g + 2 := hi
                 rw [hi', B5.out] at hcs
                 injection hcs with hcs
                 injection hcs with _ hcs
                 exact absurd hcs (by decide))
             · exact L5.out.trans (((Frm.refl (· = g + 2) w').set (p := ⟨g + 2, 0, none⟩) rfl _).below L5.out.size (fun i hi e' => by have : i = g + 2 := e'; omega)))
    · have hlt' : ¬ (j : Int) < n := by omega
      have hall : S.E.take j = S.E := List.take_of_length_le (by rw [LE.out]; omega)
      have hown := HR.out.own
      rw [hall] at hown
      have hn' : (S.close s).E.length = n' := hown.row.1.1
      have hcl := S.close_len s
      rw [LE.out, hn'] at hcl
      have hsub : IntKind.i64.wrap ((n : Int) - (n' : Int)) = (S.closed s : Int) := by
        rw [show (n : Int) - (n' : Int) = (S.closed s : Int) by omega]
        rw [IntKind.wrap_i64]; omega
      obtain ⟨r0, r1⟩ := RC.cells_vals HR.out.res
      simp only [RC.zero] at r0 r1
      have fr0 := vobj_frozen HR.out.res 0
      have fr1 := vobj_frozen HR.out.res 1
      have OW := Lib.hid hown
      clear hall hown hn' hcl
      go_wp2
      go_region
      all_goals go_wp2
      all_goals (
        have x6 : ((wr.setCell ⟨g + 1, 0, none⟩ (.slice A' n' c')).setCell ⟨g + 1, 1, none⟩ (.slice B m d)).drew.heap[g + 1]? = some (vobj 29 (RC.mk A' n' c' B m d).vals) := setX1 (setX0 HR.out.res A' n' c') B m d
        have f6 : Frm (· = g + 1) wr ((wr.setCell ⟨g + 1, 0, none⟩ (.slice A' n' c')).setCell ⟨g + 1, 1, none⟩ (.slice B m d)).drew := ((((Frm.refl (· = g + 1) wr).set (p := ⟨g + 1, 0, none⟩) rfl _).set (p := ⟨g + 1, 1, none⟩) rfl _)).ali (drew_ali _)
        refine bodyPost_ret (v := .tuple #[.agg (aggV (RC.mk A' n' c' B m d).vals), .int .i64 (S.closed s)]) (results_agg1 Try.results22 rfl (loadX x6) (by first | rfl | simp)) rfl ⟨RC.mk A' n' c' B m d, rfl, ?_, ?_⟩
        · exact RC.Is.beside (x := RC.mk A' n' c' B m d) (w := wr) ⟨OW.out.mono HB.out, ISR.out.prs⟩ HR.out.res (by decide) f6
        · have f7 := HR.out.low.trans (f6.below HR.out.low.size (fun i hi e' => by have : i = g + 1 := e'; omega))
          first | exact f7 | (rw [← hg]; exact f7) | (rw [hg] at f7; exact f7))
end Go.Proofs.Ytlphahkmibhidaa
