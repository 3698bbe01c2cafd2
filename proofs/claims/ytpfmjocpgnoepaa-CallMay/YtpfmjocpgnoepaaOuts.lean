/- api.Out by value: outcomes as Lean numbers, their cells, their type; which of them may be; lists of them by their ids. -/
import Derived.Test.YtpfmjocpgnoepaaRecs
import Derived.Test.YtpfmjocpgnoepaaAgg
import Derived.Test.YtpfmjocpgnoepaaSame
namespace Go.Proofs.Ytpfmjocpgnoepaa
set_option linter.unusedVariables false
open Go.ChangeShapes Go.WideShapes Go.ChangeAt Go.RowKit

/-- An outcome: whose, of what kind, of what cause, its value, when. -/
structure Ot where
  id : Int
  kind : Int
  cause : Int
  val : Int
  tm : Int
namespace Ot
def vals (x : Ot) : List Value := [.int .i64 x.id, .int .i64 x.kind, .int .i64 x.cause, .int .i64 x.val, .int .u64 x.tm]
def zero : Ot := ⟨0, 0, 0, 0, 0⟩
structure Fits (x : Ot) : Prop where
  id : wf64 x.id
  kind : wf64 x.kind
  cause : wf64 x.cause
  val : wf64 x.val
  tm : 0 ≤ x.tm ∧ x.tm ≤ 18446744073709551615
theorem zero_fits : zero.Fits := ⟨⟨by decide, by decide⟩, ⟨by decide, by decide⟩, ⟨by decide, by decide⟩, ⟨by decide, by decide⟩, by decide⟩
theorem len_vals (x : Ot) : x.vals.length = 5 := rfl
theorem ones_vals (x : Ot) : Ones x.vals := by intro v hv; simp only [vals, List.mem_cons, List.not_mem_nil, or_false] at hv; rcases hv with rfl | rfl | rfl | rfl | rfl <;> rfl
theorem vals_inj {x y : Ot} (h : x.vals = y.vals) : x = y := by
  cases x; cases y
  simp [vals] at h
  obtain ⟨rfl, rfl, rfl, rfl, rfl⟩ := h
  rfl
instance : DecidableEq Ot := fun x y => decidable_of_iff (x.id = y.id ∧ x.kind = y.kind ∧ x.cause = y.cause ∧ x.val = y.val ∧ x.tm = y.tm) ⟨fun h => by cases x; cases y; simp at h; simp [h], fun h => by subst h; exact ⟨rfl, rfl, rfl, rfl, rfl⟩⟩
/-- Whether it may be. -/
def May (x : Ot) : Prop := ((x.kind = 1 ∨ x.kind = 2) ∧ x.cause = 0) ∨ ((x.kind = 3 ∨ (x.kind = 4 ∧ x.val = 0)) ∧ 1 ≤ x.cause ∧ x.cause ≤ 4)
instance (x : Ot) : Decidable x.May := by unfold May; infer_instance
def may (x : Ot) : Bool := decide x.May
end Ot
def orec : Rec Ot := ⟨Ot.vals, 5, by decide, Ot.len_vals, Ot.ones_vals⟩
/-- The kinds of its cells. -/
abbrev outK : List CK := [.int .i64, .int .i64, .int .i64, .int .i64, .int .u64]
theorem wfU {n : Int} (h : 0 ≤ n ∧ n ≤ 18446744073709551615) : (Lit.int .u64 n).wf = true := WalkArith.wf_u64 h
theorem flat_out {x : Ot} (h : x.Fits) : Flat outK x.vals := ⟨⟨_, rfl, h.id.lit⟩, ⟨_, rfl, h.kind.lit⟩, ⟨_, rfl, h.cause.lit⟩, ⟨_, rfl, h.val.lit⟩, ⟨_, rfl, wfU h.tm⟩, trivial⟩
theorem out_flat {vs : List Value} (h : Flat outK vs) : ∃ x : Ot, vs = x.vals ∧ x.Fits := by
  obtain _ | ⟨v0, vs⟩ := vs
  · exact h.elim
  obtain ⟨⟨a, rfl, ha⟩, h⟩ := h
  obtain _ | ⟨v1, vs⟩ := vs
  · exact h.elim
  obtain ⟨⟨b, rfl, hb⟩, h⟩ := h
  obtain _ | ⟨v2, vs⟩ := vs
  · exact h.elim
  obtain ⟨⟨c, rfl, hc⟩, h⟩ := h
  obtain _ | ⟨v3, vs⟩ := vs
  · exact h.elim
  obtain ⟨⟨d, rfl, hd⟩, h⟩ := h
  obtain _ | ⟨v4, vs⟩ := vs
  · exact h.elim
  obtain ⟨⟨e, rfl, he⟩, h⟩ := h
  obtain _ | ⟨v5, vs⟩ := vs
  · exact ⟨⟨a, b, c, d, e⟩, rfl, bounds_i64 ha, bounds_i64 hb, bounds_i64 hc, bounds_i64 hd, wf_u64 he⟩
  · exact h.elim
theorem out_agg {c : Array Value} (h : Flat outK c.toList) : ∃ x : Ot, c = aggV x.vals ∧ x.Fits := by
  obtain ⟨x, e, hx⟩ := out_flat h
  exact ⟨x, by rw [← e]; rfl, hx⟩

/-! ### its type -/
theorem undO : ∃ fs, Try.prog.underlying 59 = some (.struct fs) := ⟨_, Try.underlying59⟩
theorem sizeO (x : Ot) : (Try.prog.info? 59).map (·.size) = some x.vals.length := by rw [x.len_vals]; kernel_rfl
theorem allocO (w : World) : (Instr.alloc 59 true (.tuple #[])).run Try.prog w = .ok (.pointer (some ⟨w.heap.size, 0, none⟩)) (w.alloc (vobj 59 Ot.zero.vals)) := by kernel_rfl
theorem buildO (w : World) : (Instr.build 59 #[]).run Try.prog w = .ok (.agg (aggV Ot.zero.vals)) w := by kernel_rfl
theorem loadO {w : World} {g : Nat} {x : Ot} (h : w.heap[g]? = some (vobj 59 x.vals)) : (loadVar 59 ⟨g, 0, none⟩).run Try.prog w = .ok (.agg (aggV x.vals)) w := by
  obtain ⟨fs, hu⟩ := undO
  exact run_load_agg w _ g x.vals _ h hu rfl (sizeO x)
theorem cellsO {w : World} {g : Nat} {ty : TypeId} {x : Ot} (h : w.heap[g]? = some (vobj ty x.vals)) : w.cell? ⟨g, 0, none⟩ = some (.int .i64 x.id) ∧ w.cell? ⟨g, 1, none⟩ = some (.int .i64 x.kind) ∧ w.cell? ⟨g, 2, none⟩ = some (.int .i64 x.cause) ∧ w.cell? ⟨g, 3, none⟩ = some (.int .i64 x.val) ∧ w.cell? ⟨g, 4, none⟩ = some (.int .u64 x.tm) :=
  ⟨vobj_cell h rfl, vobj_cell h rfl, vobj_cell h rfl, vobj_cell h rfl, vobj_cell h rfl⟩
theorem out_slice : Try.prog.underlying 49 = some (.slice 59) := by kernel_rfl
theorem out_info : (Try.prog.info? 59).map (fun i => (i.zero, i.size, i.bytes)) = some (some (.agg (aggV Ot.zero.vals)), 5, 40) := by kernel_rfl
theorem out_parts : ∃ i, Try.prog.info? 59 = some i ∧ i.zero = some (.agg (aggV Ot.zero.vals)) ∧ i.size = 5 ∧ i.bytes = 40 := by
  have h := out_info
  cases hi : Try.prog.info? 59 with
  | none => rw [hi] at h; cases h
  | some i =>
    rw [hi] at h
    simp only [Option.map_some, Option.some.injEq, Prod.mk.injEq] at h
    exact ⟨i, rfl, h.1, h.2.1, h.2.2⟩
/-- '==' of two outcomes. -/
theorem sameO (x y : Ot) (h : x.Fits) (h' : y.Fits) (w : World) : (Op.equalIn 10000 59 (.agg (aggV x.vals)) (.agg (aggV y.vals))).run Try.prog w = .ok (decide (x = y)) w := by
  by_cases e : x = y
  · subst e
    rw [same_yes (P := Try.prog) (t := 59) (ks := outK) 8 (by decide) (by kernel_rfl) (by kernel_rfl) (by kernel_rfl) (by kernel_rfl) (xs := aggV x.vals) (flat_out h) w]
    simp
  · rw [same_no (P := Try.prog) (t := 59) (ks := outK) 8 (by decide) (by kernel_rfl) (by kernel_rfl) (by kernel_rfl) (by kernel_rfl) (xs := aggV x.vals) (ys := aggV y.vals) (flat_out h) (flat_out h') (fun hc => e (Ot.vals_inj (aggV_inj hc))) w]
    simp [e]

/-! ### slices of them -/
abbrev OutR (w : World) (base : Nat) (v : Value) (V : List Ot) : Prop := OwnR orec w base 59 v V
theorem wpList_appO {ops : Array Oper} {rest : List Oper} {o : Oper} {a : Act} {Q : Exit → Act → World → Prop} {w : World} {base m c : Nat} {v : Value} {V U : List Ot} {A : Option Addr} (hg : o.guard = none) (s x : Operand)
    (ho : o.op = .call { callee := .builtin .append, args := #[s, x], argTypes := #[49, 49] })
    (hsv : a.eval s = v) (hxv : a.eval x = .slice A m c) (own : OutR w base v V) (src : RowR orec w A m U) (hle : V.length + m ≤ 1048576) (hbase : base ≤ w.heap.size)
    (h : ∀ v' w', OutR w' base v' (V ++ U) → w.grownBy w' v.ownBlock → (v'.ownBlock = v.ownBlock ∨ v'.ownBlock = some w.heap.size) → wpList Try.prog ops Q rest (a.put o.dst v') w') : wpList Try.prog ops Q (o :: rest) a w := by
  obtain ⟨i0, hi0, hz0, hz1, hz2⟩ := out_parts
  exact wpList_appR hg s x ho out_slice hi0 hz0 hz1 hz2 rfl (by omega) hsv hxv own src hle hbase h
/-- Where an element lies. -/
theorem RowR.out {w : World} {A : Option Addr} {n : Nat} {V : List Ot} (h : RowR orec w A n V) {i : Nat} (hi : i < n) : ∃ b off x, A = some ⟨b, off, none⟩ ∧ V[i]? = some x ∧ w.rangeAt b (off + i * 5) x.vals := by
  obtain ⟨b, off, a, hA, hV, _, hc⟩ := h.at_ hi
  exact ⟨b, off, a, hA, hV, fun j u hu => hc j u hu⟩
theorem range_cell {w : World} {b p : Nat} {x : Ot} (h : w.rangeAt b p x.vals) : w.cell? ⟨b, p, none⟩ = some (.int .i64 x.id) := h 0 _ rfl
theorem range_later {w w' : World} {b p : Nat} {vs : List Value} (h : w.rangeAt b p vs) (hb : Below w.heap.size w w') : w'.rangeAt b p vs := fun j u hu => cell_later hb (h j u hu)
/-- Outcomes that came in. -/
theorem outs_in {w : World} {a : Option Addr} {l k : Nat} {D : List (List Value)} (h : SliceIn w outK 40 a l k D) : ∃ V : List Ot, RowR orec w a l V ∧ (∀ x ∈ V, x.Fits) ∧ l ≤ k ∧ k ≤ maxLen := by
  obtain ⟨h1, h2, h3, _, h5, h6⟩ := h
  have hz : ∀ M : List (List Value), (∀ row ∈ M, Flat outK row) → ∃ V : List Ot, M = V.map Ot.vals ∧ ∀ x ∈ V, x.Fits := by
    intro M
    induction M with
    | nil => intro _; exact ⟨[], rfl, by simp⟩
    | cons row M ih =>
      intro hM
      obtain ⟨V, e, hV⟩ := ih (fun r hr => hM r (by simp [hr]))
      obtain ⟨x, rfl, hx⟩ := out_flat (hM row (by simp))
      exact ⟨x :: V, by simp [e], by intro y hy; rcases List.mem_cons.1 hy with rfl | hy; exact hx; exact hV y hy⟩
  obtain ⟨V, rfl, hV⟩ := hz D h2
  refine ⟨V, ⟨by simpa using h1, by omega, ?_⟩, hV, h3, h5⟩
  rcases h6 with h6 | ⟨b, off, e, hlt, hc⟩
  · exact .inl h6
  · refine .inr ⟨b, off, e, hlt, fun j u hu => ?_⟩
    have hj := (List.getElem?_eq_some_iff.1 hu).1
    have hfl := orec.flat_length V
    rw [hfl] at hj
    have h5' : orec.size = 5 := rfl
    rw [h5'] at hj
    have hi : j / 5 < V.length := by omega
    have hV' : V[j / 5]? = some (V[j / 5]'hi) := List.getElem?_eq_getElem hi
    have hv : (V[j / 5]'hi).vals[j % 5]? = some ((V[j / 5]'hi).vals[j % 5]'(by rw [Ot.len_vals]; omega)) := List.getElem?_eq_getElem _
    have h7 := orec.flat_at hV' hv
    rw [h5', show j / 5 * 5 + j % 5 = j by omega] at h7
    rw [h7] at hu
    injection hu with hu
    rw [← hu]
    have := hc (j / 5) (j % 5) (V[j / 5]'hi).vals _ (by rw [List.getElem?_map, hV']; rfl) hv
    rwa [show (outK.length : Nat) = 5 from rfl, show j / 5 * 5 + j % 5 = j by omega] at this

/-! ### lists of them, by their ids -/
/-- Whether a command has one; its outcome; its place. -/
def hasL (L : List Ot) (z : Int) : Bool := L.any (fun x => x.id == z)
def ofL (L : List Ot) (z : Int) : Ot := (L.find? (fun x => x.id == z)).getD Ot.zero
def place (L : List Ot) (z : Int) : Option Nat := L.findIdx? (fun x => x.id == z)
def adds (L : List Ot) (x : Ot) : Bool := x.may && !hasL L x.id
def emit (L : List Ot) (x : Ot) : List Ot := if adds L x then L ++ [x] else L
theorem hasL_iff {L : List Ot} {z : Int} : hasL L z = true ↔ ∃ x ∈ L, x.id = z := by simp [hasL]
theorem place_some {L : List Ot} {z : Int} (h : hasL L z = true) : ∃ i, place L z = some i ∧ L[i]? = some (ofL L z) ∧ (ofL L z).id = z := by
  unfold place ofL
  cases hp : L.findIdx? (fun x => x.id == z) with
  | none =>
    rw [List.findIdx?_eq_none_iff] at hp
    obtain ⟨x, hx, e⟩ := hasL_iff.1 h
    have := hp x hx
    simp [e] at this
  | some i =>
    refine ⟨i, rfl, ?_⟩
    obtain ⟨hi, h1, h2⟩ := List.findIdx?_eq_some_iff_getElem.1 hp
    have hf : L.find? (fun x => x.id == z) = some L[i] := by
      rw [List.find?_eq_some_iff_getElem]
      exact ⟨h1, i, hi, rfl, fun j hj => by simpa using h2 j hj⟩
    rw [hf, List.getElem?_eq_getElem hi]
    exact ⟨rfl, by simpa using h1⟩
theorem place_none {L : List Ot} {z : Int} (h : hasL L z = false) : place L z = none := by
  unfold place
  rw [List.findIdx?_eq_none_iff]
  intro x hx
  have : ¬ ∃ x ∈ L, x.id = z := fun hc => by rw [hasL_iff.2 hc] at h; cases h
  simpa using fun e => this ⟨x, hx, e⟩
theorem ofL_none {L : List Ot} {z : Int} (h : hasL L z = false) : ofL L z = Ot.zero := by
  unfold ofL
  rw [List.find?_eq_none.2 (fun x hx => ?_)]
  · rfl
  · intro hc
    rw [hasL_iff.2 ⟨x, hx, by simpa using hc⟩] at h
    cases h
theorem ofL_fits {L : List Ot} {z : Int} (h : ∀ x ∈ L, x.Fits) : (ofL L z).Fits := by
  cases hh : hasL L z
  · rw [ofL_none hh]; exact Ot.zero_fits
  · obtain ⟨i, _, hi, _⟩ := place_some hh
    exact h _ (List.mem_of_getElem? hi)
theorem hasL_snoc (L : List Ot) (x : Ot) (z : Int) : hasL (L ++ [x]) z = (hasL L z || (x.id == z)) := by simp [hasL]
theorem place_snoc {L : List Ot} {x : Ot} (h : hasL L x.id = false) (z : Int) : place (L ++ [x]) z = if z = x.id then some L.length else place L z := by
  have hn := place_none h
  unfold place at *
  rw [List.findIdx?_append]
  by_cases e : z = x.id
  · subst e
    rw [hn]
    simp [List.findIdx?_cons]
  · have e' : (x.id == z) = false := by simp; omega
    simp [List.findIdx?_cons, e, e']
theorem adds_iff {L : List Ot} {x : Ot} : adds L x = true ↔ x.may = true ∧ hasL L x.id = false := by simp [adds]
theorem emit_yes {L : List Ot} {x : Ot} (h : adds L x = true) : emit L x = L ++ [x] := by rw [emit, if_pos h]
theorem emit_no {L : List Ot} {x : Ot} (h : adds L x = false) : emit L x = L := by rw [emit, if_neg (by simp [h])]
theorem emit_len (L : List Ot) (x : Ot) : (emit L x).length ≤ L.length + 1 := by unfold emit; split <;> simp
theorem emit_mem {L : List Ot} {x y : Ot} (h : y ∈ emit L x) : y ∈ L ∨ (y = x ∧ x.may = true) := by
  unfold emit at h
  split at h
  · rename_i ha
    rcases List.mem_append.1 h with h | h
    · exact .inl h
    · exact .inr ⟨by simpa using h, (adds_iff.1 ha).1⟩
  · exact .inl h
/-- Unlike commands. -/
def Unlike (L : List Ot) : Prop := L.Pairwise (fun x y => x.id ≠ y.id)
theorem unlike_nil : Unlike [] := List.Pairwise.nil
theorem unlike_emit {L : List Ot} (h : Unlike L) (x : Ot) : Unlike (emit L x) := by
  unfold emit
  split
  · rename_i ha
    refine List.pairwise_append.2 ⟨h, by simp, fun y hy z hz => ?_⟩
    rw [List.mem_singleton] at hz
    subst hz
    intro e
    have := hasL_iff.2 ⟨y, hy, e⟩
    rw [(adds_iff.1 ha).2] at this
    cases this
  · exact h
end Go.Proofs.Ytpfmjocpgnoepaa
