/- What the laws over deeds read: a deed among those that came in; when a timer is due, told by both. -/
import Derived.Test.YtgpebbopggmgbaaSameL03
namespace Go.Proofs.Ytgpebbopggmgbaa
set_option linter.unusedVariables false
open Go.ChangeShapes Go.WideShapes Go.ChangeAt Go.RowKit

theorem deed_at {w : World} {a : Option Addr} {len cap : Nat} {D : List (List Value)} (h : SliceIn w [.int .i64, .int .i64, .int .i64, .int .u64] 32 a len cap D) {i : Nat} (hi : i < len) :
    ∃ blk off kd k j T, a = some ⟨blk, off, none⟩ ∧ w.cell? ⟨blk, off + i * 4, none⟩ = some (.int .i64 kd) ∧ w.cell? ⟨blk, off + i * 4 + 1, none⟩ = some (.int .i64 k) ∧ w.cell? ⟨blk, off + i * 4 + 2, none⟩ = some (.int .i64 j) ∧ w.cell? ⟨blk, off + i * 4 + 3, none⟩ = some (.int .u64 T) ∧
      wf64 k ∧ wf64 j ∧ 0 ≤ T ∧ T ≤ 18446744073709551615 := by
  obtain ⟨h1, h2, _, _, _, h6⟩ := h
  rcases h6 with h6 | ⟨blk, off, ha, _, hc⟩
  · omega
  · have hr : D[i]? = some (D[i]'(by omega)) := List.getElem?_eq_getElem (by omega)
    have hf := h2 _ (List.getElem_mem (by omega) : D[i]'(by omega) ∈ D)
    generalize D[i]'(by omega) = row at hr hf
    cases row with
    | nil => exact hf.elim
    | cons c0 row =>
      cases row with
      | nil => exact hf.2.elim
      | cons c1 row =>
        cases row with
        | nil => exact hf.2.2.elim
        | cons c2 row =>
          cases row with
          | nil => exact hf.2.2.2.elim
          | cons c3 row =>
            obtain ⟨⟨kd, rfl, _⟩, ⟨k, rfl, hk⟩, ⟨j, rfl, hj⟩, ⟨T, rfl, hT⟩, _⟩ := hf
            refine ⟨blk, off, kd, k, j, T, ha, ?_, ?_, ?_, ?_, bounds_i64 hk, bounds_i64 hj, (wf_u64 hT).1, (wf_u64 hT).2⟩
            · simpa using hc i 0 _ _ hr rfl
            · have := hc i 1 _ _ hr rfl
              simpa [Nat.add_assoc] using this
            · have := hc i 2 _ _ hr rfl
              simpa [Nat.add_assoc] using this
            · have := hc i 3 _ _ hr rfl
              simpa [Nat.add_assoc] using this

/-- When a timer is due, and whether it is there. -/
def DueS (L : List Ent) (k i : Int) (d : Int) (t : Bool) : Prop := (∃ e ∈ L, e.k = k ∧ e.i = i ∧ d = e.d ∧ t = true) ∨ ((∀ e ∈ L, ¬ (e.k = k ∧ e.i = i)) ∧ d = 0 ∧ t = false)
theorem DueS.one {L : List Ent} (hkeys : L.Pairwise (fun a b => ¬ (a.k = b.k ∧ a.i = b.i))) {k i d d' : Int} {t t' : Bool} (h : DueS L k i d t) (h' : DueS L k i d' t') : d' = d ∧ t' = t := by
  rcases h with ⟨e, he, hk, hi, rfl, rfl⟩ | ⟨hno, rfl, rfl⟩ <;> rcases h' with ⟨e', he', hk', hi', rfl, rfl⟩ | ⟨hno', rfl, rfl⟩
  · refine ⟨?_, rfl⟩
    obtain ⟨l1, l2, rfl⟩ := List.append_of_mem he
    rw [List.pairwise_append, List.pairwise_cons] at hkeys
    rcases List.mem_append.1 he' with hm | hm
    · exact absurd ⟨by rw [hk', hk], by rw [hi', hi]⟩ (hkeys.2.2 e' hm e (by simp))
    · rcases List.mem_cons.1 hm with rfl | hm
      · rfl
      · exact absurd ⟨by rw [hk', hk], by rw [hi', hi]⟩ (hkeys.2.1.1 e' hm)
  · exact absurd ⟨hk, hi⟩ (hno' e he)
  · exact absurd ⟨hk', hi'⟩ (hno e' he')
  · exact ⟨rfl, rfl⟩
theorem due_s (b m : Nat) (now k i : Int) (L : List Ent) (w : World) (h : Whl w b m now L) (hk : wf64 k) (hi : wf64 i) :
    Calls Try.prog 12 #[.pointer (some ⟨b, 0, none⟩), .agg #[.int .i64 k, .int .i64 i]] w fun r w' => ∃ d t, r = .returned (.tuple #[.int .u64 d, .bool t]) ∧ DueS L k i d t ∧ Below w.heap.size w w' := by
  refine (due_whl b m now k i L w h hk hi).mono ?_
  rintro r w' ⟨hb, ⟨e, he, h1, h2, rfl⟩ | ⟨hno, rfl⟩⟩
  · exact ⟨e.d, true, rfl, .inl ⟨e, he, h1, h2, rfl, rfl⟩, hb⟩
  · exact ⟨0, false, rfl, .inr ⟨hno, rfl, rfl⟩, hb⟩
theorem rdue_s (A : Option Addr) (len cap : Nat) (nw k i : Int) (V : List Ent) (w : World) (hr : RowE w A len V) (hlen : len ≤ 1099511627776) (hwf : ∀ e ∈ V, wf64 e.k ∧ wf64 e.i) (hk : wf64 k) (hi : wf64 i) :
    Calls Try.prog 13 #[.agg #[.int .u64 nw, .slice A len cap], .agg #[.int .i64 k, .int .i64 i]] w fun r w' => ∃ d t, r = .returned (.tuple #[.int .u64 d, .bool t]) ∧ DueS V k i d t ∧ Below w.heap.size w w' := by
  refine (rdue_any A len cap nw k i V w hr hlen hwf hk hi).mono ?_
  rintro r w' ⟨hb, ⟨e, he, h1, h2, rfl⟩ | ⟨hno, rfl⟩⟩
  · exact ⟨e.d, true, rfl, .inl ⟨e, he, h1, h2, rfl, rfl⟩, hb⟩
  · exact ⟨0, false, rfl, .inr ⟨hno, rfl, rfl⟩, hb⟩

/-- The variable x, stored anew. -/
theorem x_set {w : World} {g : Nat} {n n' : Int} {A A' : Option Addr} {len cap len' cap' : Nat} (h : w.heap[g]? = some (xobj n A len cap)) :
    ((w.setCell ⟨g, 0, none⟩ (.int .u64 n')).setCell ⟨g, 1, none⟩ (.slice A' len' cap')).heap[g]? = some (xobj n' A' len' cap') := by
  rw [heap_set_same (heap_set_same h _)]
  simp
/-- What a deed's statement reads. -/
theorem held_deed {w : World} {xb blk o : Nat} {n kd k j T : Int} {A : Option Addr} {len cap : Nat} (hx : w.heap[xb]? = some (xobj n A len cap))
    (h0 : w.cell? ⟨blk, o, none⟩ = some (.int .i64 kd)) (h1 : w.cell? ⟨blk, o + 1, none⟩ = some (.int .i64 k)) (h2 : w.cell? ⟨blk, o + 2, none⟩ = some (.int .i64 j)) (h3 : w.cell? ⟨blk, o + 3, none⟩ = some (.int .u64 T)) :
    w.cell? ⟨xb, 0, none⟩ = some (.int .u64 n) ∧ w.cell? ⟨xb, 1, none⟩ = some (.slice A len cap) ∧ w.cell? ⟨blk, o, none⟩ = some (.int .i64 kd) ∧ w.cell? ⟨blk, o + 1, none⟩ = some (.int .i64 k) ∧ w.cell? ⟨blk, o + 2, none⟩ = some (.int .i64 j) ∧ w.cell? ⟨blk, o + 3, none⟩ = some (.int .u64 T) :=
  ⟨(xcells hx).1, (xcells hx).2, h0, h1, h2, h3⟩

end Go.Proofs.Ytgpebbopggmgbaa
