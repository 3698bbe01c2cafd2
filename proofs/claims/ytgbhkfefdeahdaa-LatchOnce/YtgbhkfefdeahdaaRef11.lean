/- Contracts of porpoiseref11: May, Of, Emit, Same. -/
import Derived.Test.YtgbhkfefdeahdaaLatDo
import Derived.Deep.LoopGhost
namespace Go.Proofs.Ytgbhkfefdeahdaa
set_option linter.unusedVariables false
open Go.ChangeShapes Go.WideShapes Go.ChangeAt Go.RowKit

/-- The ways by which the document's May goes. -/
theorem rmay_ways (x : Ot) : ((x.kind == 1) = true ∧ x.may = (x.cause == 0)) ∨ ((x.kind == 1) = false ∧ (x.kind == 2) = true ∧ x.may = (x.cause == 0)) ∨
    ((x.kind == 1) = false ∧ (x.kind == 2) = false ∧ (x.kind == 3) = true ∧ decide (1 ≤ x.cause) = true ∧ x.may = decide (x.cause ≤ 4)) ∨ ((x.kind == 1) = false ∧ (x.kind == 2) = false ∧ (x.kind == 3) = true ∧ decide (1 ≤ x.cause) = false ∧ x.may = false) ∨
    ((x.kind == 1) = false ∧ (x.kind == 2) = false ∧ (x.kind == 3) = false ∧ (x.kind == 4) = true ∧ (x.val == 0) = false ∧ x.may = false) ∨
    ((x.kind == 1) = false ∧ (x.kind == 2) = false ∧ (x.kind == 3) = false ∧ (x.kind == 4) = true ∧ (x.val == 0) = true ∧ decide (1 ≤ x.cause) = true ∧ x.may = decide (x.cause ≤ 4)) ∨
    ((x.kind == 1) = false ∧ (x.kind == 2) = false ∧ (x.kind == 3) = false ∧ (x.kind == 4) = true ∧ (x.val == 0) = true ∧ decide (1 ≤ x.cause) = false ∧ x.may = false) ∨
    ((x.kind == 1) = false ∧ (x.kind == 2) = false ∧ (x.kind == 3) = false ∧ (x.kind == 4) = false ∧ x.may = false) := by
  have h := may_ways x
  simp only [beq_eq_false_iff_ne, beq_iff_eq, decide_eq_true_eq, decide_eq_false_iff_not] at *
  generalize x.may = t at *
  generalize x.kind = k at *
  rcases h with ⟨rfl, h⟩ | ⟨rfl, h⟩ | ⟨rfl, c, h⟩ | ⟨rfl, c, h⟩ | ⟨rfl, v, h⟩ | ⟨rfl, v, c, h⟩ | ⟨rfl, v, c, h⟩ | ⟨k1, k2, k3, k4, h⟩
  · exact .inl ⟨rfl, h⟩
  · exact .inr (.inl ⟨by decide, rfl, h⟩)
  · exact .inr (.inr (.inl ⟨by decide, by decide, rfl, c, h⟩))
  · exact .inr (.inr (.inr (.inl ⟨by decide, by decide, rfl, c, h⟩)))
  · exact .inr (.inr (.inr (.inr (.inl ⟨by decide, by decide, by decide, rfl, v, h⟩))))
  · exact .inr (.inr (.inr (.inr (.inr (.inl ⟨by decide, by decide, by decide, rfl, v, c, h⟩)))))
  · exact .inr (.inr (.inr (.inr (.inr (.inr (.inl ⟨by decide, by decide, by decide, rfl, v, c, h⟩))))))
  · exact .inr (.inr (.inr (.inr (.inr (.inr (.inr ⟨k1, k2, k3, k4, h⟩))))))
set_option maxHeartbeats 2000000 in
theorem rmay_any (x : Ot) (w : World) : Calls Try.prog 16 #[.agg (aggV x.vals)] w fun r w' => r = .returned (.bool x.may) ∧ Below w.heap.size w w' := by
  obtain ⟨g, hg⟩ : ∃ g, w.heap.size = g := ⟨_, rfl⟩
  have hm := rmay_ways x
  generalize x.may = t at hm ⊢
  rcases hm with ⟨k1, rfl⟩ | ⟨k1, k2, rfl⟩ | ⟨k1, k2, k3, c, rfl⟩ | ⟨k1, k2, k3, c, rfl⟩ | ⟨k1, k2, k3, k4, v, rfl⟩ | ⟨k1, k2, k3, k4, v, c, rfl⟩ | ⟨k1, k2, k3, k4, v, c, rfl⟩ | ⟨k1, k2, k3, k4, rfl⟩
  all_goals (
    go_enter Try.func16, Try.ntmps16
    go_wp2_with (refine wpList_box_agg rfl 29 _ rfl g hg x.vals rfl ?_; intro w2 h2 l2 t2; obtain ⟨d0, d1, d2, d3, d4⟩ := cellsO h2; have HB := Lib.hid l2; clear h2 l2 t2 d0 d4)
    go_ret
    exact ⟨rfl, by first | exact HB.out | (rw [hg]; exact HB.out)⟩)

theorem take_more {V : List Ot} {j : Nat} {z : Ot} (h : V[j]? = some z) : V.take (j + 1) = V.take j ++ [z] := by
  obtain ⟨hlt, he⟩ := List.getElem?_eq_some_iff.1 h
  rw [List.take_succ_eq_append_getElem hlt, he]
theorem of_first {V : List Ot} {j : Nat} {y : Ot} (hy : V[j]? = some y) (hno : hasL (V.take j) y.id = false) : hasL V y.id = true ∧ ofL V y.id = y := by
  have hV : V = V.take j ++ (y :: V.drop (j + 1)) := by
    have h1 := take_more hy
    have h2 := List.take_append_drop (j + 1) V
    rw [h1] at h2
    simpa using h2.symm
  refine ⟨hasL_iff.2 ⟨y, List.mem_of_getElem? hy, rfl⟩, ?_⟩
  have hn : (V.take j).find? (fun x => x.id == y.id) = none := by
    rw [List.find?_eq_none]
    intro x hx hc
    rw [hasL_iff.2 ⟨x, hx, by simpa using hc⟩] at hno
    cases hno
  unfold ofL
  rw [hV, List.find?_append, hn]
  simp
set_option maxRecDepth 100000 in
set_option maxHeartbeats 1000000 in
theorem rof_any (A : Option Addr) (n c : Nat) (z : Int) (V : List Ot) (w : World) (hr : RowR orec w A n V) :
    Calls Try.prog 14 #[.slice A n c, .int .i64 z] w fun r w' => r = .returned (.tuple #[.agg (aggV (ofL V z).vals), .bool (hasL V z)]) ∧ Below w.heap.size w w' := by
  obtain ⟨g, hg⟩ : ∃ g, w.heap.size = g := ⟨_, rfl⟩
  have hnm := hr.2.1
  unfold maxLen at hnm
  have HR := Lib.hid hr
  have HV := Lib.hid hr.1
  clear hr
  go_enter Try.func14, Try.ntmps14
  go_wp2_with (first
    | (refine wpList_alloc_agg rfl 29 rfl g hg Ot.zero.vals (allocO _) ?_; intro w1 h1 l1 t1; have H1 := Lib.hid h1; have L1 : Hid (Below w.heap.size w w1) := Lib.hid (by rw [hg]; exact l1); clear h1 l1 t1))
  go_loopg [6] n (fun k v6 wr => ∃ j : Nat, j + k = n ∧ v6 = .int .i64 j ∧ hasL (V.take j) z = false ∧ w1 = wr)
  case atStart => exact ⟨0, by omega, rfl, rfl, rfl⟩
  case round =>
    obtain ⟨j, hj, rfl, hno, rfl⟩ := hrel
    have HJ := Lib.hid hj
    have NO := Lib.hid hno
    clear hj hno
    by_cases hlt : j < n
    · have hlt' : (j : Int) < n := by omega
      obtain ⟨rb, off, y, rfl, hy, hrg⟩ := (HR.out.later L1.out).out hlt
      have q0 := range_cell hrg
      have RG := Lib.hid hrg
      have HY := Lib.hid hy
      clear hrg hy
      by_cases hc : y.id = z
      · subst hc
        have hof := of_first HY.out NO.out
        have HOF := Lib.hid hof
        clear hof
        go_wp2_with (first
          | (refine wpList_load_out rfl _ rfl rb (off + j * 5) rfl y RG.out ?_)
          | (refine wpList_store_agg rfl 29 _ _ rfl g Ot.zero.vals y.vals rfl rfl ?hz rfl (sizeO _) (Ot.ones_vals _) ?_; (case hz => exact H1.out); intro w2 h2 f2 t2))
        refine bodyPost_ret (v := .tuple #[.agg (aggV y.vals), .bool true]) (results_agg1 Try.results14 rfl (loadO h2) rfl) rfl ⟨by rw [HOF.out.1, HOF.out.2], ?_⟩
        subst hg
        exact L1.out.trans (f2.below L1.out.size (fun j hj e => by omega))
      · have hc' : (y.id == z) = false := by simp [hc]
        clear hc
        go_wp2
        go_roundg (n - (j + 1))
        case measure => have := HJ.out; omega
        case rel =>
          refine ⟨j + 1, by omega, by simp, ?_, rfl⟩
          rw [take_more HY.out, hasL_snoc, NO.out, hc']
          rfl
    · have hlt' : ¬ (j : Int) < n := by omega
      have hno := NO.out
      rw [List.take_of_length_le (by rw [HV.out]; omega)] at hno
      have HNO := Lib.hid hno
      clear hno
      go_wp2_with (first
        | (refine wpList_build_agg rfl 29 #[] rfl Ot.zero.vals (buildO _) ?_)
        | (refine wpList_store_agg rfl 29 _ _ rfl g Ot.zero.vals Ot.zero.vals rfl rfl ?hz rfl (sizeO _) (Ot.ones_vals _) ?_; (case hz => exact H1.out); intro w2 h2 f2 t2))
      refine bodyPost_ret (v := .tuple #[.agg (aggV Ot.zero.vals), .bool false]) (results_agg1 Try.results14 rfl (loadO h2) rfl) rfl ⟨by rw [HNO.out, ofL_none HNO.out], ?_⟩
      subst hg
      exact L1.out.trans (f2.below L1.out.size (fun j hj e => by omega))

end Go.Proofs.Ytgbhkfefdeahdaa
