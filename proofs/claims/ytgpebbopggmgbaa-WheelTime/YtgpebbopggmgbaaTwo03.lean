/- Two wheels beside each other, with the same timers; what is kept of them while they are stepped. -/
import Derived.Test.YtgpebbopggmgbaaPut03
namespace Go.Proofs.Ytgpebbopggmgbaa
set_option linter.unusedVariables false
open Go.ChangeShapes Go.WideShapes Go.ChangeAt Go.RowKit

/-- Two wheels, apart, with the same timers. -/
structure Beside (w0 w : World) (b m b' m' : Nat) (now now' : Int) (L L' : List Ent) : Prop where
  fa : Own w0 w b m now L
  fb : Own w0 w b' m' now' L'
  ap : ∀ j, Foot b m L j → ¬ Foot b' m' L' j
  vv : L.map vw = L'.map vw
section
variable {w0 w w' w1 w2 : World} {b m b' m' : Nat} {now now' t t' : Int} {L L' l l' : List Ent} {e e' : Ent}
theorem Beside.alloc (h : Beside w0 w b m b' m' now now' L L') (o : Obj) : Beside w0 (w.alloc o) b m b' m' now now' L L' := ⟨h.fa.alloc o, h.fb.alloc o, h.ap, h.vv⟩
/-- The first one's time has turned. -/
theorem Beside.first (h : Beside w0 w b m b' m' now now' L L') (hf : Frm (Foot b m L) w w') (ho : Own w0 w' b m t L) : Beside w0 w' b m b' m' t now' L L' :=
  ⟨ho, ⟨h.fb.whl.frm hf (fun j hj hc => h.ap j hc hj), ho.low, h.fb.foot⟩, h.ap, h.vv⟩
theorem foot_cons {b m : Nat} {e : Ent} {l : List Ent} {j : Nat} (h : Foot b m l j) : Foot b m (e :: l) j := by
  rcases h with h | h | ⟨x, hx, h⟩
  · exact .inl h
  · exact .inr (.inl h)
  · exact .inr (.inr ⟨x, by simp [hx], h⟩)
/-- Of the first one a timer has come: the other one is as it was. -/
theorem Beside.other (h : Beside w0 w b m b' m' now now' L L') (hf : Frm (Foot b m L) w w') (hl : Below w0.heap.size w0 w') : Own w0 w' b' m' now' L' :=
  ⟨h.fb.whl.frm hf (fun j hj hc => h.ap j hc hj), hl, h.fb.foot⟩
/-- Of both a timer has come. -/
theorem Beside.both (h : Beside w0 w b m b' m' now now' (e :: l) (e' :: l')) (ha : Own w0 w1 b m t l) (hf : Frm (Foot b' m' (e' :: l')) w1 w2) (hb : Own w0 w2 b' m' t' l') : Beside w0 w2 b m b' m' t t' l l' where
  fa := ⟨ha.whl.frm hf (fun j hj hc => h.ap j (foot_cons hj) hc), hb.low, ha.foot⟩
  fb := hb
  ap j hj hc := h.ap j (foot_cons hj) (foot_cons hc)
  vv := (List.cons.inj (by simpa using h.vv)).2
end

/-- The rest of a list of which some are struck. -/
theorem filter_ins' {p : Ent → Bool} (e : Ent) : ∀ {V : List Ent}, V.Pairwise (fun a b => a.d ≤ b.d) → (ins e V).filter p = if p e = true then ins e (V.filter p) else V.filter p
  | [], _ => by
    have : ins e [] = [e] := rfl
    rw [this]
    by_cases hp : p e = true <;> simp [hp, ins]
  | x :: xs, h => by
    obtain ⟨h1, h2⟩ := List.pairwise_cons.1 h
    have hu : ins e (x :: xs) = if e.d < x.d then e :: x :: xs else x :: ins e xs := rfl
    have ih := filter_ins' (p := p) e h2
    rw [hu]
    split
    · rename_i hlt
      by_cases hp : p e = true
      · rw [List.filter_cons_of_pos hp, if_pos hp]
        have hfirst : ∀ V : List Ent, (∀ y ∈ V, e.d < y.d) → ins e V = e :: V := by
          intro V hV
          cases V with
          | nil => rfl
          | cons y ys =>
            have : ins e (y :: ys) = if e.d < y.d then e :: y :: ys else y :: ins e ys := rfl
            rw [this, if_pos (hV y (by simp))]
        rw [hfirst]
        intro y hy
        have hy' := (List.mem_filter.1 hy).1
        rcases List.mem_cons.1 hy' with rfl | hy'
        · exact hlt
        · have := h1 y hy'; omega
      · rw [List.filter_cons_of_neg hp, if_neg hp]
    · rename_i hge
      by_cases hx : p x = true
      · rw [List.filter_cons_of_pos hx, ih, List.filter_cons_of_pos hx]
        by_cases hp : p e = true
        · rw [if_pos hp, if_pos hp]
          have : ins e (x :: xs.filter p) = if e.d < x.d then e :: x :: xs.filter p else x :: ins e (xs.filter p) := rfl
          rw [this, if_neg hge]
        · rw [if_neg hp, if_neg hp]
      · rw [List.filter_cons_of_neg hx, ih, List.filter_cons_of_neg hx]
theorem seqV_sorted (now : Int) (zs : List Int) : ∀ n, (seqV now zs n).Pairwise (fun a b => a.d ≤ b.d)
  | 0 => List.Pairwise.nil
  | n + 1 => sorted_ins _ (seqV_sorted now zs n)
/-- Without the one of a number. -/
def but (c : Int) (V : List Ent) : List Ent := V.filter (fun x => x.i != c)
theorem but_seqV (now c : Int) (zs : List Int) (n : Nat) : but c (seqV now zs (n + 1)) = if (n : Int) = c then but c (seqV now zs n) else ins (oneV now zs n) (but c (seqV now zs n)) := by
  unfold but
  rw [seqV, filter_ins' _ (seqV_sorted now zs n)]
  have : (oneV now zs n).i = n := rfl
  rw [this]
  by_cases h : (n : Int) = c
  · simp [h]
  · simp [h]
/-- A timer that is cancelled is struck from the view. -/
theorem del_view {L : List Ent} (hap : L.Pairwise (fun a b => a.g ≠ b.g)) (hkeys : L.Pairwise (fun a b => ¬ (a.k = b.k ∧ a.i = b.i))) {e : Ent} (he : e ∈ L) (hk : ∀ x ∈ L, x.k = e.k) : (del e.g L).map vw = but e.i (L.map vw) := by
  unfold del but
  rw [List.filter_map]
  congr 1
  refine List.filter_congr fun x hx => ?_
  show (x.g != e.g) = (x.i != e.i)
  by_cases hg : x.g = e.g
  · have := pair_eq hap hx he hg
    subst this
    simp
  · have hi : x.i ≠ e.i := fun hc => by
      obtain ⟨l1, l2, rfl⟩ := List.append_of_mem he
      rw [List.pairwise_append, List.pairwise_cons] at hkeys
      rcases List.mem_append.1 hx with hx' | hx'
      · exact hkeys.2.2 x hx' e (by simp) ⟨hk x hx, hc⟩
      · rcases List.mem_cons.1 hx' with rfl | hx'
        · exact hg rfl
        · exact hkeys.2.1.1 x hx' ⟨(hk x hx).symm, hc.symm⟩
    rw [bne_iff_ne.2 hg, bne_iff_ne.2 hi]

end Go.Proofs.Ytgpebbopggmgbaa
