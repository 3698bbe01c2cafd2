/- The wheel's map: timers by their keys; what a look-up tells, what a store and a delete leave. -/
import Derived.Test.YtgpebbopggmgbaaWhNew
import Derived.Test.YtgpebbopggmgbaaWhSoon
import Derived.Test.YtgpebbopggmgbaaSame
namespace Go.Proofs.Ytgpebbopggmgbaa
set_option linter.unusedVariables false
open Go.ChangeShapes Go.WideShapes Go.ChangeAt Go.RowKit

theorem laid_out : laidOutB Try.prog = true := by kernel_rfl
theorem timer_row : (25 : TypeId) < Try.prog.types.size := of_decide_eq_true (by kernel_rfl)
theorem timer_keyed : Maps.Keyed Try.prog 25 := Maps.Keyed.of_law (deep_law_laid laid_out (m := 2) (by omega) timer_row (by kernel_rfl) (by kernel_rfl))
theorem timer_type : Try.prog.underlying 57 = some (.map 25 58) := by kernel_rfl
theorem entry_zero (w : World) : (zeroValue 58).run Try.prog w = .ok (.pointer none) w := by kernel_rfl

def wf64 (k : Int) : Prop := -9223372036854775808 ≤ k ∧ k ≤ 9223372036854775807
theorem wf64.lit {k : Int} (h : wf64 k) : (Lit.int .i64 k).wf = true := WalkArith.wf_i64 h
def tv (k i : Int) : Value := .agg #[.int .i64 k, .int .i64 i]
/-- What a timer reads as, as a key. -/
def klit (k i : Int) : Lit := .string (keyBytes [.int .i64 k, .int .i64 i])
theorem timer_flat {k i : Int} (hk : wf64 k) (hi : wf64 i) : Flat [.int .i64, .int .i64] [.int .i64 k, .int .i64 i] := ⟨⟨k, rfl, hk.lit⟩, ⟨i, rfl, hi.lit⟩, trivial⟩
theorem key_at {k i : Int} (hk : wf64 k) (hi : wf64 i) : keyOf Try.prog 25 (tv k i) = some (klit k i) := by
  have hl := lits_flat (P := Try.prog) (Try.prog.types.size + 1) 25 [.int .i64, .int .i64] [.int .i64 k, .int .i64 i] (by kernel_rfl) (by kernel_rfl) (timer_flat hk hi)
  have hb : (match Try.prog.underlying 25 with | some (.struct _) => true | _ => false) = true := by kernel_rfl
  obtain ⟨fs, hu⟩ : ∃ fs, Try.prog.underlying 25 = some (.struct fs) := by
    split at hb
    · rename_i fs hu
      exact ⟨fs, hu⟩
    · cases hb
  have ht : Try.prog.keyType 25 = true := by kernel_rfl
  have hf : (tv k i).formed Try.prog 25 = true := by
    unfold tv Value.formed
    rw [hu]
    have : Try.prog.cellsOf 25 = 2 := by kernel_rfl
    simp [this]
  unfold keyOf
  rw [hu]
  simp only [ht, hf, Bool.and_self, if_true]
  show (Try.prog.keyLits (Try.prog.types.size + 1) 25 [.int .i64 k, .int .i64 i]).map _ = _
  rw [hl]
  rfl
theorem klit_inj {k i k' i' : Int} (hk : wf64 k) (hi : wf64 i) (hk' : wf64 k') (hi' : wf64 i') (h : klit k i = klit k' i') : k = k' ∧ i = i' := by
  have := timer_keyed.inj (key_at hk hi) (h ▸ key_at hk' hi')
  simp [tv] at this
  exact this
theorem klit_key (k i : Int) (hk : wf64 k) (hi : wf64 i) : WideAt.IsKeyLit (klit k i) := timer_keyed.key (key_at hk hi)

/-- How an entry's pointer reads. -/
def ptrElem (v : Value) : Option (DataW Unit × List MemPlace) :=
  match v with
  | .pointer none => some (.nil, [])
  | .pointer (some ⟨g, 0, none⟩) => some (.lit (.int .i64 g), [])
  | _ => none
theorem ptrElem_some {v : Value} {g : Nat} {ps : List MemPlace} (h : ptrElem v = some (.lit (.int .i64 g), ps)) : v = .pointer (some ⟨g, 0, none⟩) := by
  unfold ptrElem at h
  split at h
  · cases h
  · injection h with h
    injection h with h _
    injection h with h
    injection h with _ h
    have : (_ : Nat) = g := Int.ofNat_inj.1 h
    rw [this]
  · cases h
theorem ptrElem_nil {v : Value} {ps : List MemPlace} (h : ptrElem v = some (.nil, ps)) : v = .pointer none := by
  unfold ptrElem at h
  split at h
  · rfl
  · cases h
  · cases h

structure MapL (w : World) (m : Nat) (L : List Ent) : Prop where
  ex : ∃ D : DataW Unit, w.ownsMap Try.prog 25 ptrElem m L.length D ∧ Maps.size D = L.length ∧
    (∀ e ∈ L, Maps.has D (klit e.k e.i) = true ∧ D.atKey (klit e.k e.i) .nil = .lit (.int .i64 e.g)) ∧
    ∀ k i, wf64 k → wf64 i → (∀ e ∈ L, ¬ (e.k = k ∧ e.i = i)) → Maps.has D (klit k i) = false
theorem MapL.lt {w : World} {m : Nat} {L : List Ent} (h : MapL w m L) : m < w.heap.size := by obtain ⟨D, h, _⟩ := h.ex; exact h.lt
theorem MapL.keep {w w' : World} {m : Nat} {L : List Ent} (h : MapL w m L) (hk : w'.heap[m]? = w.heap[m]?) : MapL w' m L := by
  obtain ⟨D, ⟨es, clock, hb, hr⟩, h2⟩ := h.ex
  exact ⟨D, ⟨es, clock, hk.trans hb, hr⟩, h2⟩
theorem MapL.obj {w : World} {m : Nat} {L : List Ent} (h : MapL w m L) : ∃ es clock, w.heap[m]? = some (.map es clock) := by
  obtain ⟨D, ⟨es, clock, hb, hr⟩, h2⟩ := h.ex
  exact ⟨es, clock, hb⟩
theorem mapL_new (w : World) : MapL (w.alloc (.map #[] 0)) w.heap.size [] :=
  ⟨.map [], World.ownsMap_made w _ _ _, rfl, by simp, fun _ _ _ _ _ => rfl⟩
theorem lower {w : World} {m n : Nat} {D : DataW Unit} (h : w.ownsMap Try.prog 25 ptrElem m n D) : w.ownsMap Try.prog 25 ptrElem m (Maps.size D) D := by
  obtain ⟨es, clock, hb, F, hs, rfl⟩ := h
  exact ⟨es, clock, hb, F, by simp [Maps.size, length_sorted], rfl⟩

/-- A look-up: the entry, or nil. -/
theorem MapL.look {w : World} {m : Nat} {L : List Ent} (h : MapL w m L) {k i : Int} (hk : wf64 k) (hi : wf64 i) :
    ∃ q : Option Ent, (match q with | none => ∀ e ∈ L, ¬ (e.k = k ∧ e.i = i) | some e => e ∈ L ∧ e.k = k ∧ e.i = i) ∧
      ∀ w' : World, w'.heap[m]? = w.heap[m]? → (Instr.lookup 57 (.map (some m)) (tv k i) false).run Try.prog w' = .ok (ptr q) w' := by
  by_cases hq : ∃ e ∈ L, e.k = k ∧ e.i = i
  · obtain ⟨e, he, rfl, rfl⟩ := hq
    refine ⟨some e, ⟨he, rfl, rfl⟩, fun w' hw => ?_⟩
    obtain ⟨D, h1, _, h3, _⟩ := (h.keep hw).ex
    obtain ⟨v, ps, hr, hv⟩ := h1.lookup timer_keyed timer_type (entry_zero _) (zd := .nil) (zp := []) rfl (key_at hk hi)
    rw [(h3 e he).2] at hv
    rw [hr, ptrElem_some hv]
    rfl
  · have hq' : ∀ e ∈ L, ¬ (e.k = k ∧ e.i = i) := fun e he hc => hq ⟨e, he, hc⟩
    refine ⟨none, hq', fun w' hw => ?_⟩
    obtain ⟨D, h1, _, _, h4⟩ := (h.keep hw).ex
    obtain ⟨v, ps, hr, hv⟩ := h1.lookup timer_keyed timer_type (entry_zero _) (zd := .nil) (zp := []) rfl (key_at hk hi)
    rw [Maps.atKey_of_not_has (h4 k i hk hi hq')] at hv
    rw [hr, ptrElem_nil hv]
    rfl

theorem MapL.store {w : World} {m : Nat} {L : List Ent} (h : MapL w m L) {e : Ent} (hwf : ∀ x ∈ L, wf64 x.k ∧ wf64 x.i) (hk : wf64 e.k) (hi : wf64 e.i) (hn : ∀ x ∈ L, ¬ (x.k = e.k ∧ x.i = e.i)) (hlen : L.length < maxLen) :
    ∃ w', (Instr.mapUpdate 57 (.map (some m)) (tv e.k e.i) (.pointer (some ⟨e.g, 0, none⟩))).run Try.prog w = .ok () w' ∧ MapL w' m (ins e L) ∧ w.mapTurned w' m := by
  obtain ⟨D, h1, h2, h3, h4⟩ := h.ex
  obtain ⟨w', hr, ho, ht⟩ := h1.store timer_keyed timer_type hlen (key_at hk hi) (val := .pointer (some ⟨e.g, 0, none⟩)) (d := .lit (.int .i64 e.g)) (ps := []) rfl
  have hD := h1.tidy timer_keyed
  have hnot := h4 e.k e.i hk hi hn
  have hsz : Maps.size (D.put (klit e.k e.i) (.lit (.int .i64 e.g))) = (ins e L).length := by
    rw [Maps.size_put hD, hnot, length_ins, h2]; rfl
  refine ⟨w', hr, ⟨_, hsz ▸ lower ho, hsz, fun x hx => ?_, fun k i hk' hi' hx => ?_⟩, ht⟩
  · rcases mem_ins.1 hx with rfl | hx
    · exact ⟨Maps.has_put_same hD.isMap (klit_key _ _ hk hi) _, Maps.atKey_put_same hD.isMap (klit_key _ _ hk hi) _ _⟩
    · have hne : klit x.k x.i ≠ klit e.k e.i := fun hc => hn x hx (klit_inj (hwf x hx).1 (hwf x hx).2 hk hi hc)
      rw [Maps.has_put_other hne, Maps.atKey_put_other hne]
      exact h3 x hx
  · have hne : klit k i ≠ klit e.k e.i := fun hc => by
      have := klit_inj hk' hi' hk hi hc
      exact hx e (mem_ins.2 (.inl rfl)) ⟨this.1.symm, this.2.symm⟩
    rw [Maps.has_put_other hne]
    exact h4 k i hk' hi' (fun y hy => hx y (mem_ins.2 (.inr hy)))

theorem MapL.drop {w : World} {m : Nat} {L : List Ent} (h : MapL w m L) {e : Ent} (he : e ∈ L) (hap : L.Pairwise (fun a b => a.g ≠ b.g)) (hkeys : L.Pairwise (fun a b => ¬ (a.k = b.k ∧ a.i = b.i))) (hwf : ∀ x ∈ L, wf64 x.k ∧ wf64 x.i) (ty : TypeId) :
    ∃ w', (Builtin.delete_ #[57, 25] ty #[.map (some m), tv e.k e.i]).run Try.prog w = .ok (.tuple #[]) w' ∧ MapL w' m (del e.g L) ∧ w.mapTurned w' m := by
  obtain ⟨D, h1, h2, h3, h4⟩ := h.ex
  have hwe := hwf e he
  obtain ⟨w', hr, ho, ht⟩ := h1.drop timer_keyed timer_type (key_at hwe.1 hwe.2) ty
  have hD := h1.tidy timer_keyed
  have hkey : ∀ x ∈ del e.g L, x ∈ L ∧ ¬ (x.k = e.k ∧ x.i = e.i) := fun x hx => by
    have hx' := List.mem_filter.1 hx
    refine ⟨hx'.1, fun hc => ?_⟩
    obtain ⟨l1, l2, rfl⟩ := List.append_of_mem he
    rw [del_split hap] at hx
    rw [List.pairwise_append, List.pairwise_cons] at hkeys
    rcases List.mem_append.1 hx with hx | hx
    · exact hkeys.2.2 x hx e (by simp) hc
    · exact hkeys.2.1.1 x hx ⟨hc.1.symm, hc.2.symm⟩
  have hsz : Maps.size (D.del (klit e.k e.i)) = (del e.g L).length := by
    have h5 := Maps.size_del (k := klit e.k e.i) hD
    rw [(h3 e he).1] at h5
    have h6 := length_del hap he
    simp at h5
    omega
  refine ⟨w', hr, ⟨_, hsz ▸ lower ho, hsz, fun x hx => ?_, fun k i hk' hi' hx => ?_⟩, ht⟩
  · obtain ⟨hxL, hc⟩ := hkey x hx
    have hne : klit x.k x.i ≠ klit e.k e.i := fun h => hc (klit_inj (hwf x hxL).1 (hwf x hxL).2 hwe.1 hwe.2 h)
    rw [Maps.has_del_other hne, Maps.atKey_del_other hne]
    exact h3 x hxL
  · by_cases hc : klit k i = klit e.k e.i
    · rw [hc]; exact Maps.has_del_same
    · rw [Maps.has_del_other hc]
      refine h4 k i hk' hi' (fun y hy hyk => ?_)
      by_cases hg : y.g = e.g
      · have := pair_eq hap hy he hg
        subst this
        exact hc (by rw [hyk.1, hyk.2])
      · exact hx y (List.mem_filter.2 ⟨hy, by simpa using hg⟩) hyk

theorem MapL.len {w : World} {m : Nat} {L : List Ent} (h : MapL w m L) (ty : TypeId) : (Builtin.len_ #[57] ty #[.map (some m)]).run Try.prog w = .ok (.int .i64 L.length) w := by
  obtain ⟨D, h1, h2, _⟩ := h.ex
  rw [h1.len timer_type, h2]

end Go.Proofs.Ytgpebbopggmgbaa
