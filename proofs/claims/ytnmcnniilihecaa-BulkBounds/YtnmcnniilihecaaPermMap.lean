/- A map whose keys are permit's holders and whose values are empty structs: what a look-up tells, what a store and a delete leave. -/
import Derived.Test.YtnmcnniilihecaaKeys
import Derived.Test.YtnmcnniilihecaaPermOrd
import Derived.Maps.RangeWalk
namespace Go.Proofs.Ytnmcnniilihecaa
set_option linter.unusedVariables false
open Go.ChangeShapes Go.WideShapes Go.ChangeAt Go.RowKit

def hv (h : Hol) : Value := .agg #[.int .i64 h.1, .int .i64 h.2]
def hlit (h : Hol) : Lit := .string (keyBytes [.int .i64 h.1, .int .i64 h.2])
def wfH (h : Hol) : Prop := wf64 h.1 ∧ wf64 h.2
theorem hol_row : (68 : TypeId) < Try.prog.types.size := of_decide_eq_true (by kernel_rfl)
theorem hol_keyed : Maps.Keyed Try.prog 68 := Maps.Keyed.of_law (deep_law_laid laid_out_k (m := 2) (by omega) hol_row (by kernel_rfl) (by kernel_rfl))
theorem hol_map : Try.prog.underlying 73 = some (.map 68 76) := by kernel_rfl
theorem unit_zero (w : World) : (zeroValue 76).run Try.prog w = .ok (.agg #[]) w := by kernel_rfl
theorem hol_flat {h : Hol} (hw : wfH h) : Flat [.int .i64, .int .i64] [.int .i64 h.1, .int .i64 h.2] := ⟨⟨h.1, rfl, hw.1.lit⟩, ⟨h.2, rfl, hw.2.lit⟩, trivial⟩
theorem hol_key {h : Hol} (hw : wfH h) : keyOf Try.prog 68 (hv h) = some (hlit h) :=
  key_flat (P := Try.prog) (ks := [.int .i64, .int .i64]) (by kernel_rfl) (by kernel_rfl) (by kernel_rfl) (by kernel_rfl) (hol_flat hw)
theorem hol_key_inv {v : Value} {kl : Lit} (h : keyOf Try.prog 68 v = some kl) : ∃ x, v = hv x ∧ wfH x ∧ kl = hlit x := by
  obtain ⟨cs, rfl, hf⟩ := key_flat_inv (P := Try.prog) (ks := [.int .i64, .int .i64]) 4 (by kernel_rfl) (by kernel_rfl) h
  obtain ⟨a, b, rfl, ha, hb⟩ := hf.two
  have hw : wfH (a, b) := ⟨bounds_i64 ha, bounds_i64 hb⟩
  refine ⟨(a, b), rfl, hw, ?_⟩
  have := hol_key hw
  change keyOf Try.prog 68 (.agg #[.int .i64 a, .int .i64 b]) = _ at this
  rw [this] at h
  injection h with h
  exact h.symm
theorem hv_inj {a b : Hol} (h : hv a = hv b) : a = b := by
  simp [hv] at h
  exact Prod.ext h.1 h.2
theorem hlit_inj {a b : Hol} (ha : wfH a) (hb : wfH b) (h : hlit a = hlit b) : a = b := hv_inj (hol_keyed.inj (hol_key ha) (h ▸ hol_key hb))
theorem hlit_key {h : Hol} (hw : wfH h) : WideAt.IsKeyLit (hlit h) := hol_keyed.key (hol_key hw)

/-- A map in block m that holds the holders L, each once. -/
structure MapH (w : World) (m : Nat) (L : List Hol) : Prop where
  ex : ∃ D : DataW Unit, w.ownsMap Try.prog 68 unitElem m L.length D ∧ Maps.size D = L.length ∧ ∀ h, wfH h → Maps.has D (hlit h) = decide (h ∈ L)
theorem MapH.lt {w : World} {m : Nat} {L : List Hol} (h : MapH w m L) : m < w.heap.size := by obtain ⟨D, h, _⟩ := h.ex; exact h.lt
theorem MapH.keep {w w' : World} {m : Nat} {L : List Hol} (h : MapH w m L) (hk : w'.heap[m]? = w.heap[m]?) : MapH w' m L := by
  obtain ⟨D, h1, h2⟩ := h.ex
  exact ⟨D, ownsMap_keep h1 hk, h2⟩
theorem MapH.obj {w : World} {m : Nat} {L : List Hol} (h : MapH w m L) : ∃ es clock, w.heap[m]? = some (.map es clock) := by
  obtain ⟨D, ⟨es, clock, hb, hr⟩, h2⟩ := h.ex
  exact ⟨es, clock, hb⟩
theorem mapH_new (w : World) : MapH (w.alloc (.map #[] 0)) w.heap.size [] := ⟨.map [], World.ownsMap_made w _ _ _, rfl, fun h _ => by simp [Maps.has]⟩
theorem MapH.look {w : World} {m : Nat} {L : List Hol} (h : MapH w m L) {x : Hol} (hw : wfH x) : (Instr.lookup 73 (.map (some m)) (hv x) true).run Try.prog w = .ok (.tuple #[.agg #[], .bool (decide (x ∈ L))]) w := by
  obtain ⟨D, h1, _, h3⟩ := h.ex
  obtain ⟨v, ps, hr, hv⟩ := h1.look_ok hol_keyed hol_map (unit_zero _) (unitElem_mk) (hol_key hw)
  rw [hr, h3 x hw, (unitElem_inv hv).1]
theorem MapH.len {w : World} {m : Nat} {L : List Hol} (h : MapH w m L) (ty : TypeId) : (Builtin.len_ #[73] ty #[.map (some m)]).run Try.prog w = .ok (.int .i64 L.length) w := by
  obtain ⟨D, h1, h2, _⟩ := h.ex
  rw [h1.len hol_map, h2]
theorem MapH.store {w : World} {m : Nat} {L : List Hol} (h : MapH w m L) {x : Hol} (hw : wfH x) (hn : x ∉ L) (hlen : L.length < maxLen) :
    ∃ w', (Instr.mapUpdate 73 (.map (some m)) (hv x) (.agg #[])).run Try.prog w = .ok () w' ∧ MapH w' m (insH x L) ∧ w.mapTurned w' m := by
  obtain ⟨D, h1, h2, h3⟩ := h.ex
  obtain ⟨w', hr, ho, ht⟩ := h1.store hol_keyed hol_map hlen (hol_key hw) unitElem_mk
  have hD := h1.tidy hol_keyed
  have hnot : Maps.has D (hlit x) = false := by rw [h3 x hw]; simp [hn]
  have hsz : Maps.size (D.put (hlit x) (.agg [])) = (insH x L).length := by
    rw [Maps.size_put hD, hnot, length_insH, h2]; rfl
  refine ⟨w', hr, ⟨_, hsz ▸ lower_map ho, hsz, fun y hy => ?_⟩, ht⟩
  by_cases hc : y = x
  · subst hc
    rw [Maps.has_put_same hD.isMap (hlit_key hw)]
    simp [mem_insH]
  · have hne : hlit y ≠ hlit x := fun e => hc (hlit_inj hy hw e)
    rw [Maps.has_put_other hne, h3 y hy]
    simp [mem_insH, hc]
theorem MapH.drop {w : World} {m : Nat} {L : List Hol} (h : MapH w m L) {x : Hol} (hw : wfH x) (hm : x ∈ L) (hd : L.Nodup) (ty : TypeId) :
    ∃ w', (Builtin.delete_ #[73, 68] ty #[.map (some m), hv x]).run Try.prog w = .ok (.tuple #[]) w' ∧ MapH w' m (outH x L) ∧ w.mapTurned w' m := by
  obtain ⟨D, h1, h2, h3⟩ := h.ex
  obtain ⟨w', hr, ho, ht⟩ := h1.drop hol_keyed hol_map (hol_key hw) ty
  have hD := h1.tidy hol_keyed
  have hsz : Maps.size (D.del (hlit x)) = (outH x L).length := by
    have h5 := Maps.size_del (k := hlit x) hD
    rw [h3 x hw] at h5
    have h6 := length_outH hd hm
    simp [hm] at h5
    omega
  refine ⟨w', hr, ⟨_, hsz ▸ lower_map ho, hsz, fun y hy => ?_⟩, ht⟩
  by_cases hc : y = x
  · subst hc
    rw [Maps.has_del_same]
    simp [mem_outH]
  · have hne : hlit y ≠ hlit x := fun e => hc (hlit_inj hy hw e)
    rw [Maps.has_del_other hne, h3 y hy]
    simp [mem_outH, hc]
end Go.Proofs.Ytnmcnniilihecaa
