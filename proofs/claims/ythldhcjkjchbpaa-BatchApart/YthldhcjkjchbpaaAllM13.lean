/- Layer 13: what a batch of wants is (plain lists). -/
import Derived.Test.YthldhcjkjchbpaaAll13
namespace Go.Proofs.Ythldhcjkjchbpaa
set_option linter.unusedVariables false
open Go.ChangeShapes Go.WideShapes Go.ChangeAt Go.RowKit

/-- Arguments are unlike; the members are those that it took, each of its own argument. -/
structure AS.Good (S : AS) : Prop where
  nd : S.zs.Nodup
  mem : ∀ t ∈ S.ts, t.b ∈ S.zs
  ms : S.ms = S.ts.map (fun t => ⟨t.a, (S.zs.idxOf t.b : Int)⟩)
theorem AS.Good.add {S : AS} (h : S.Good) (most : Int) (x : P2) : (S.add most x).Good := by
  unfold AS.add
  split
  case isFalse => exact h
  case isTrue hy =>
    simp only [addY, decide_eq_true_eq] at hy
    by_cases hx : x.b ∈ S.zs
    · have e2 : addA S.zs x.b most = S.zs := by simp [addA, hx]
      have e3 : addM S.zs S.ms x.a x.b most = S.ms ++ [⟨x.a, (S.zs.idxOf x.b : Int)⟩] := by simp [addM, hx]
      rw [e2, e3]
      refine ⟨h.nd, fun t ht => ?_, ?_⟩
      · rcases List.mem_append.1 ht with ht | ht
        · exact h.mem t ht
        · rw [List.mem_singleton.1 ht]; exact hx
      · simp only [List.map_append, List.map_cons, List.map_nil]
        rw [← h.ms]
    · have hf : ¬ most ≤ (S.zs.length : Int) := by rcases hy with hy | hy; exact absurd hy hx; exact hy
      have e2 : addA S.zs x.b most = S.zs ++ [x.b] := by unfold addA; rw [if_neg hx, if_neg hf]
      have e3 : addM S.zs S.ms x.a x.b most = S.ms ++ [⟨x.a, (S.zs.idxOf x.b : Int)⟩] := by unfold addM; rw [if_pos (.inr hf)]
      rw [e2, e3]
      refine ⟨List.nodup_append.2 ⟨h.nd, by simp, fun a ha b hb e => hx (by rw [List.mem_singleton.1 hb] at e; rw [← e]; exact ha)⟩, fun t ht => ?_, ?_⟩
      · rcases List.mem_append.1 ht with ht | ht
        · exact List.mem_append.2 (.inl (h.mem t ht))
        · rw [List.mem_singleton.1 ht]; simp
      · simp only [List.map_append, List.map_cons, List.map_nil]
        congr 1
        · rw [h.ms]
          refine List.map_congr_left fun t ht => ?_
          rw [List.idxOf_append, if_pos (h.mem t ht)]
        · rw [List.idxOf_append, if_neg hx, List.idxOf_eq_length hx, List.idxOf_cons_self, Nat.zero_add]
theorem foldl_inv {α β : Type} {f : α → β → α} {P : α → Prop} (h : ∀ a b, P a → P (f a b)) : ∀ (l : List β) (a : α), P a → P (l.foldl f a)
  | [], a, ha => ha
  | b :: l, a, ha => foldl_inv h l _ (h a b ha)
theorem allS_good (most : Int) (U : List P2) : (allS most U).Good := by
  cases U with
  | nil => exact ⟨List.nodup_nil, by simp [allS], rfl⟩
  | cons x U =>
    refine foldl_inv (P := AS.Good) (fun S x h => h.add most x) U _ ⟨by simp, by simp, ?_⟩
    simp
theorem allS_len {most : Int} (h1 : 1 ≤ most) (U : List P2) : ((allS most U).zs.length : Int) ≤ most := by
  cases U with
  | nil => simp [allS]; omega
  | cons x U =>
    refine foldl_inv (P := fun (S : AS) => (S.zs.length : Int) ≤ most) (fun S x h => ?_) U _ (by simp; omega)
    unfold AS.add
    split
    · simp only
      unfold addA
      split
      · exact h
      · split
        · exact h
        · simp; omega
    · exact h
theorem AS.Good.mlen {S : AS} (h : S.Good) : S.ms.length = S.ts.length := by rw [h.ms]; simp
theorem AS.Good.splits {S : AS} (h : S.Good) {vs : List Int} (hv : vs.length = S.zs.length) : splitY S.zs S.ms vs = true := by
  unfold splitY
  rw [Bool.and_eq_true, decide_eq_true_eq, List.all_eq_true]
  refine ⟨hv, fun x hx => ?_⟩
  rw [h.ms] at hx
  obtain ⟨t, ht, rfl⟩ := List.mem_map.1 hx
  have := List.idxOf_lt_length_of_mem (h.mem t ht)
  simp [okM]
  omega
theorem AS.Good.pairs {S : AS} (h : S.Good) (vs : List Int) : pairL S.ms vs = S.ts.map (fun t => ⟨t.a, vs.getD (S.zs.idxOf t.b) 0⟩) := by
  rw [h.ms]
  simp [pairL]
theorem AS.Good.lead {S : AS} (h : S.Good) {x : P2} (hx : S.ts[0]? = some x) : leadL S.ms = x.a ∧ 0 < S.zs.length := by
  constructor
  · rw [h.ms]
    unfold leadL
    rw [List.getElem?_map, hx]
    rfl
  · exact List.length_pos_of_mem (h.mem x (List.mem_of_getElem? hx))
theorem AS.Good.owns {S : AS} (h : S.Good) (f : Int → Int) : pairL S.ms (S.zs.map f) = S.ts.map (fun t => ⟨t.a, f t.b⟩) := by
  rw [h.pairs]
  refine List.map_congr_left fun t ht => ?_
  have h1 := List.idxOf_lt_length_of_mem (h.mem t ht)
  have h2 : S.zs[S.zs.idxOf t.b]? = some t.b := by
    rw [List.getElem?_eq_getElem h1, List.getElem_idxOf]
  rw [List.getD_eq_getElem?_getD, List.getElem?_map, h2]
  rfl
theorem pair_flat {vs : List Value} (hv : Flat [.int .i64, .int .i64] vs) : ∃ x : P2, vs = [.int .i64 x.a, .int .i64 x.b] ∧ x.Fits := by
  obtain _ | ⟨v0, vs⟩ := vs
  · exact hv.elim
  obtain ⟨⟨a, rfl, ha⟩, hv⟩ := hv
  obtain _ | ⟨v1, vs⟩ := vs
  · exact hv.elim
  obtain ⟨⟨b, rfl, hb⟩, hv⟩ := hv
  obtain _ | ⟨v2, vs⟩ := vs
  · exact ⟨⟨a, b⟩, rfl, bounds_i64 ha, bounds_i64 hb⟩
  · exact hv.elim
theorem pair_agg {c : Array Value} (hv : Flat [.int .i64, .int .i64] c.toList) : ∃ x : P2, c = #[.int .i64 x.a, .int .i64 x.b] ∧ x.Fits := by
  obtain ⟨x, h, hx⟩ := pair_flat hv
  exact ⟨x, Array.toList_inj.1 h, hx⟩
theorem allS_first (most : Int) (x : P2) (U : List P2) : (allS most (x :: U)).ts[0]? = some x := by
  refine foldl_inv (P := fun (S : AS) => S.ts[0]? = some x) (fun S y h => ?_) U _ rfl
  unfold AS.add
  split
  · simp only
    obtain ⟨h1, h2⟩ := List.getElem?_eq_some_iff.1 h
    rw [List.getElem?_append_left h1]
    exact h
  · exact h
end Go.Proofs.Ythldhcjkjchbpaa
