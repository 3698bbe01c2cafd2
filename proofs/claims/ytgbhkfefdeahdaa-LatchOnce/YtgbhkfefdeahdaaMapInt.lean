/- A map[int]int of the call's own, as a function of its keys: what a look-up tells, what a store leaves. -/
import Derived.Test.YtgbhkfefdeahdaaBlk
import Derived.Maps.OwnSet
namespace Go.Proofs.Ytgbhkfefdeahdaa
set_option linter.unusedVariables false
open Go.ChangeShapes Go.WideShapes Go.ChangeAt Go.RowKit Go.Deep

theorem int_key : Maps.Keyed Try.prog 3 := Maps.int_keyed (q := .i64) (by kernel_rfl)
theorem int_map : Try.prog.underlying 43 = some (.map 3 3) := by kernel_rfl
theorem int_und : Try.prog.underlying 3 = some (.int .i64) := by kernel_rfl
theorem int_zero (w : World) : (zeroValue 3).run Try.prog w = .ok (.int .i64 0) w := by kernel_rfl
theorem key_int {z : Int} (h : wf64 z) : keyOf Try.prog 3 (.int .i64 z) = some (.int .i64 z) := Maps.keyOf_int_mk int_und h.lit
/-- A map in block m, of at most n keys: f tells what stands at each. -/
structure MapN (w : World) (m n : Nat) (f : Int → Option Nat) : Prop where
  ex : ∃ D : DataW Unit, w.ownsMap Try.prog 3 (plainElem Try.prog 3) m n D ∧ ∀ z, wf64 z → Maps.has D (.int .i64 z) = (f z).isSome ∧ D.atKey (.int .i64 z) (.lit (.int .i64 0)) = .lit (.int .i64 ((f z).getD 0 : Nat))
section
variable {w w' : World} {m n : Nat} {f : Int → Option Nat}
theorem MapN.lt (h : MapN w m n f) : m < w.heap.size := by obtain ⟨D, h, _⟩ := h.ex; exact h.lt
theorem MapN.keep (h : MapN w m n f) (hk : w'.heap[m]? = w.heap[m]?) : MapN w' m n f := by
  obtain ⟨D, ⟨es, clock, hb, hr⟩, h2⟩ := h.ex
  exact ⟨D, ⟨es, clock, hk.trans hb, hr⟩, h2⟩
theorem MapN.obj (h : MapN w m n f) : ∃ es clock, w.heap[m]? = some (.map es clock) := by
  obtain ⟨D, ⟨es, clock, hb, hr⟩, h2⟩ := h.ex
  exact ⟨es, clock, hb⟩
theorem mapN_new (w : World) : MapN (w.alloc (.map #[] 0)) w.heap.size 0 (fun _ => none) := ⟨.map [], World.ownsMap_made w _ _ _, fun z _ => ⟨by simp [Maps.has], rfl⟩⟩
theorem MapN.look (h : MapN w m n f) {z : Int} (hz : wf64 z) : (Instr.lookup 43 (.map (some m)) (.int .i64 z) true).run Try.prog w = .ok (.tuple #[.int .i64 ((f z).getD 0 : Nat), .bool (f z).isSome]) w := by
  obtain ⟨D, h1, h2⟩ := h.ex
  obtain ⟨v, ps, hr, hv⟩ := h1.look_ok int_key int_map (int_zero _) (plainElem_int int_und (by decide)) (key_int hz)
  rw [(h2 z hz).2] at hv
  obtain ⟨c, rfl, hc, _⟩ := plainElem_int_inv int_und hv
  rw [hr, (h2 z hz).1]
  simp only [Prod.mk.injEq] at hc
  injection hc.1 with hc
  injection hc with _ hc
  rw [hc]
theorem MapN.store (h : MapN w m n f) {z : Int} (hz : wf64 z) {i : Nat} (hi : i < 9223372036854775807) (hn : n < maxLen) :
    ∃ w', (Instr.mapUpdate 43 (.map (some m)) (.int .i64 z) (.int .i64 i)).run Try.prog w = .ok () w' ∧ MapN w' m (n + 1) (fun y => if y = z then some i else f y) ∧ w.mapTurned w' m := by
  obtain ⟨D, h1, h2⟩ := h.ex
  obtain ⟨w', hr, ho, ht⟩ := h1.store int_key int_map hn (key_int hz) (plainElem_int int_und (a := (i : Int)) (wf64.lit ⟨by omega, by omega⟩))
  have hD := h1.tidy int_key
  have hk : WideAt.IsKeyLit (.int .i64 z) := int_key.key (key_int hz)
  refine ⟨w', hr, ⟨_, ho, fun y hy => ?_⟩, ht⟩
  by_cases hc : y = z
  · subst hc
    rw [Maps.has_put_same hD.isMap hk, Maps.atKey_put_same hD.isMap hk]
    simp
  · have hne : Lit.int .i64 y ≠ Lit.int .i64 z := fun e => hc (by injection e)
    rw [Maps.has_put_other hne, Maps.atKey_put_other hne]
    simp only [if_neg hc]
    exact h2 y hy
end
end Go.Proofs.Ytgbhkfefdeahdaa
