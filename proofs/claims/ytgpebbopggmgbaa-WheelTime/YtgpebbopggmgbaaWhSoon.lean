/- Contract of package wheel's list.soonest. -/
import Derived.Test.YtgpebbopggmgbaaWhLists
import Derived.Deep.LoopGhost
import Derived.BigQuiet
namespace Go.Proofs.Ytgpebbopggmgbaa
set_option linter.unusedVariables false
open Go.ChangeShapes Go.WideShapes Go.ChangeAt Go.RowKit

theorem soonest_none (b o : Nat) (w : World) (c0 : w.cell? ⟨b, o, none⟩ = some (.pointer none)) :
    Calls Try.prog 35 #[.pointer (some ⟨b, o, none⟩)] w fun r w' => r = .returned (.pointer none) ∧ Ali w w' := by
  go_enter Try.func35, Try.ntmps35
  go_wp2
  refine wp_loop_rounds 1 ?_
  repeat any_goals (rw [rounds_succ]; go_wp2)
  go_ret
  exact ⟨rfl, Ali.refl _⟩

theorem seg_read {w wr : World} {l1 l2 : List Ent} {x : Ent} (hs : Seg w none (l1 ++ x :: l2) none) (ha : Ali w wr) : wr.cell? ⟨x.g, 2, none⟩ = some (.int .u64 x.d) ∧ wr.cell? ⟨x.g, 4, none⟩ = some (ptr l2.head?) := by
  have h := (seg_append.1 hs).2.1.ali ha
  have hc := h.cells
  exact ⟨hc.2.2.1, by simpa using hc.2.2.2.2.1⟩

set_option maxHeartbeats 1000000 in
theorem soonest_some (b o : Nat) (f : Ent) (l : List Ent) (w : World) (c0 : w.cell? ⟨b, o, none⟩ = some (.pointer (some ⟨f.g, 0, none⟩))) (hs : Seg w none (f :: l) none) :
    Calls Try.prog 35 #[.pointer (some ⟨b, o, none⟩)] w fun r w' => ∃ e, r = .returned (.pointer (some ⟨e.g, 0, none⟩)) ∧ Soon (f :: l) e ∧ Ali w w' := by
  go_enter Try.func35, Try.ntmps35
  go_wp2
  clear c0
  go_loopg [3, 4] (l.length + 1) (fun k best e wr => ∃ (l1 l2 : List Ent) (t : Ent), l2.length = k ∧ f :: l = l1 ++ l2 ∧ e = ptr l2.head? ∧ best = .pointer (some ⟨t.g, 0, none⟩) ∧ (l1 = [] ∧ t = f ∨ Soon l1 t) ∧ Ali w wr)
  case atStart => exact ⟨[], f :: l, f, rfl, rfl, rfl, rfl, .inl ⟨rfl, rfl⟩, Ali.refl _⟩
  case round =>
    obtain ⟨l1, l2, t, hk, hl, rfl, rfl, ht, ha⟩ := hrel
    cases l2 with
    | nil =>
      have A := Lib.hid hl
      have B := Lib.hid ht
      have D := Lib.hid ha
      clear hk hl ht ha hs
      rw [show ptr ([] : List Ent).head? = .pointer none from rfl]
      go_wp2
      go_ret
      refine ⟨t, rfl, ?_, D.out⟩
      have hl := A.out
      simp at hl
      rcases B.out with ⟨h1, _⟩ | h1
      · subst h1; cases hl
      · rw [hl]; exact h1
    | cons x l2 =>
      have htm : t ∈ l1 ++ x :: l2 := by
        rcases ht with ⟨rfl, rfl⟩ | ht
        · rw [List.nil_append] at hl ⊢
          rw [← hl]; simp
        · exact List.mem_append_left _ ht.least.1
      have hs' := hs
      rw [hl] at hs'
      obtain ⟨t1, t2, htl⟩ := List.append_of_mem htm
      have hx := seg_read hs' ha
      rw [htl] at hs'
      have htc := seg_read hs' ha
      obtain ⟨u, hu⟩ : ∃ u, ptr l2.head? = .pointer u := ⟨_, rfl⟩
      obtain ⟨hx2, hx4⟩ := hx
      have ht2 := htc.1
      rw [hu] at hx4
      have A := Lib.hid hl
      have B := Lib.hid ht
      have D := Lib.hid ha
      have U := Lib.hid hu
      have K := Lib.hid hk
      clear hk hl ht ha hs hs' htc htl hu htm
      rw [show ptr (x :: l2).head? = .pointer (some ⟨x.g, 0, none⟩) from rfl]
      by_cases hlt : x.d < t.d
      · go_wp2
        go_quiet (fail)
        go_wp2
        go_roundg l2.length
        case measure => have := K.out; simp at this; omega
        case rel =>
          refine ⟨l1 ++ [x], l2, x, rfl, by have := A.out; simpa using this, U.out.symm, rfl, .inr ?_, D.out.trans ⟨rfl, rfl, rfl, rfl⟩⟩
          rcases B.out with ⟨h1, h2⟩ | h1
          · subst h1; exact soon_one x
          · exact h1.less hlt
      · go_wp2
        go_quiet (fail)
        go_wp2
        go_roundg l2.length
        case measure => have := K.out; simp at this; omega
        case rel =>
          refine ⟨l1 ++ [x], l2, t, rfl, by have := A.out; simpa using this, U.out.symm, rfl, .inr ?_, D.out.trans ⟨rfl, rfl, rfl, rfl⟩⟩
          rcases B.out with ⟨h1, h2⟩ | h1
          · subst h1
            have hl := A.out
            simp at hl
            rw [h2, hl.1]
            exact soon_one x
          · exact h1.more (by omega)

/-- Of those that are due first in a list the one that stands first; nil of an empty one. -/
theorem soonest_any (b o : Nat) (l : List Ent) (w : World) (c0 : w.cell? ⟨b, o, none⟩ = some (ptr l.head?)) (hs : Seg w none l none) :
    Calls Try.prog 35 #[.pointer (some ⟨b, o, none⟩)] w fun r w' => ∃ q, r = .returned (ptr q) ∧ (match q with | none => l = [] | some e => Soon l e) ∧ Ali w w' := by
  cases l with
  | nil =>
    refine (soonest_none b o w c0).mono ?_
    rintro r w' ⟨rfl, ha⟩
    exact ⟨none, rfl, rfl, ha⟩
  | cons f l =>
    refine (soonest_some b o f l w c0 hs).mono ?_
    rintro r w' ⟨e, rfl, h, ha⟩
    exact ⟨some e, rfl, h, ha⟩

end Go.Proofs.Ytgpebbopggmgbaa
