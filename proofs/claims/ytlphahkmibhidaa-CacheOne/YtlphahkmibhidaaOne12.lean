/- A key in a new scope: who leads, who joins, what is told (plain lists). -/
import Derived.Test.YtlphahkmibhidaaRan12
namespace Go.Proofs.Ytlphahkmibhidaa
set_option linter.unusedVariables false

namespace CA
abbrev big : Int := 1099511627776
/-- Those who join, in turn. -/
def wants (n : Nat) : List Int := (List.range n).map (fun j : Nat => 2199023255552 + (j : Int))
theorem wants_next (n : Nat) : wants (n + 1) = wants n ++ [2199023255552 + (n : Int)] := by simp [wants, List.range_succ]
theorem wants_len (n : Nat) : (wants n).length = n := by simp [wants]
/-- Behind the close of the scope: one that leads, and so many who joined. -/
def onest (S : CA) (k : K3) (n : Nat) : CA := ⟨(S.close k.a).E ++ [⟨k, big, false, zero3⟩], S.J ++ (wants n).map (fun x => (big, x)), S.q + n⟩
def oneset (S : CA) (k t : K3) (n : Nat) : CA := ⟨(S.close k.a).E ++ [⟨k, big, true, t⟩], S.J, S.q + n⟩
theorem close_no (S : CA) (k : K3) : ∀ e ∈ (S.close k.a).E, e.k ≠ k := fun e he hc => by
  have := (List.mem_filter.1 he).2
  rw [hc] at this
  simp at this
theorem at_close (S : CA) (k : K3) : (S.close k.a).at_ k = none := by
  unfold at_
  rw [List.find?_eq_none]
  intro e he
  simpa using close_no S k e he
theorem at_last {A : List CE} {e : CE} {k : K3} (h : ∀ x ∈ A, x.k ≠ k) (he : e.k = k) (J : List (Int × Int)) (q : Nat) : (⟨A ++ [e], J, q⟩ : CA).at_ k = some e := by
  unfold at_
  simp only
  rw [List.find?_append, List.find?_eq_none.2 (fun x hx => by simpa using h x hx)]
  simp [he]
section
variable (S : CA) (k t : K3) (h0 : k.a ≠ 0) (hs : S.size ≤ 100)
include h0 in
theorem one_lead : (S.close k.a).asks k = 1 ∧ (S.close k.a).tell k = zero3 ∧ (S.close k.a).ask k big = S.onest k 0 := by
  have ha := S.at_close k
  refine ⟨by simp [asks, h0, ha], by simp [tell, h0, ha], ?_⟩
  simp [ask, h0, ha, onest, wants]
  exact ⟨rfl, rfl⟩
include h0 in
theorem one_join (n : Nat) : (S.onest k n).asks k = 2 ∧ (S.onest k n).tell k = zero3 ∧ (S.onest k n).ask k (2199023255552 + (n : Int)) = S.onest k (n + 1) := by
  have ha : (S.onest k n).at_ k = some ⟨k, big, false, zero3⟩ := at_last (S.close_no k) rfl _ _
  refine ⟨by simp [asks, h0, ha], by simp [tell, h0, ha], ?_⟩
  simp only [ask, h0, ha, if_false]
  simp [onest, wants_next]
  omega
include hs in
theorem one_size (n : Nat) (hn : n ≤ 9) : (S.onest k n).size ≤ 1000 ∧ (S.oneset k t n).size ≤ 1000 ∧ (S.close k.a).size ≤ 1000 ∧ S.size ≤ 1000 := by
  have := S.close_size k.a
  simp only [size, close] at this
  simp only [size, onest, oneset, close, List.length_append, List.length_singleton]
  simp only [size] at hs
  refine ⟨by omega, by omega, by omega, by omega⟩
theorem one_joined (led : S.Led (fun z => z < big)) (n : Nat) : (S.onest k n).joined big = wants n ∧ (S.onest k n).settle big t = S.oneset k t n ∧ (S.oneset k t n).joined big = [] ∧ (S.oneset k t n).settle big t = S.oneset k t n := by
  have e1 : S.J.filter (fun p => decide (p.1 = big)) = [] := List.filter_eq_nil_iff.2 (fun p hp => by have := led.prs p hp; simp only [decide_eq_true_eq]; omega)
  have e2 : S.J.filter (fun p => !decide (p.1 = big)) = S.J := List.filter_eq_self.2 (fun p hp => by have := led.prs p hp; have : ¬ p.1 = big := by omega
                                                                                                     simp [this])
  have e3 : ∀ M : List Int, (M.map (fun x => (big, x))).filter (fun p => decide (p.1 = big)) = M.map (fun x => (big, x)) := fun M => List.filter_eq_self.2 (fun p hp => by obtain ⟨x, _, rfl⟩ := List.mem_map.1 hp; simp)
  have e4 : ∀ M : List Int, (M.map (fun x => (big, x))).filter (fun p => !decide (p.1 = big)) = [] := fun M => List.filter_eq_nil_iff.2 (fun p hp => by obtain ⟨x, _, rfl⟩ := List.mem_map.1 hp; simp)
  have e5 : (S.close k.a).E.map (fun e => e.sets big t) = (S.close k.a).E := by
    conv => rhs; rw [← List.map_id (S.close k.a).E]
    apply List.map_congr_left
    intro e he
    have h1 := led.ent e (List.mem_filter.1 he).1
    have : ¬ e.id = big := by omega
    simp [CE.sets, this]
  refine ⟨?_, ?_, ?_, ?_⟩
  · simp only [joined, onest, List.filter_append, e1, e3, List.nil_append, List.map_map]
    exact List.map_id' (wants n)
  · simp only [settle, onest, oneset, List.filter_append, e2, e4, List.map_append, e5]
    simp [CE.sets]
  · simp only [joined, oneset, e1]
    rfl
  · simp only [settle, oneset, List.map_append, e5, e2]
    simp [CE.sets]
include h0 in
theorem one_know (n : Nat) : (S.oneset k t n).asks k = 3 ∧ (S.oneset k t n).tell k = t ∧ (S.oneset k t n).ask k 5 = S.oneset k t n := by
  have ha : (S.oneset k t n).at_ k = some ⟨k, big, true, t⟩ := at_last (S.close_no k) rfl _ _
  refine ⟨by simp [asks, h0, ha], by simp [tell, h0, ha], by simp [ask, h0, ha]⟩
include h0 in
theorem one_anew (n : Nat) : ((S.oneset k t n).close k.a).asks k = 1 ∧ ((S.oneset k t n).close k.a).tell k = zero3 := by
  have ha := (S.oneset k t n).at_close k
  refine ⟨by simp [asks, h0, ha], by simp [tell, h0, ha]⟩
end
end CA
open Go.ChangeShapes Go.WideShapes Go.ChangeAt Go.RowKit in
/-- A row that is none of the cache's grows. -/
theorem oc_grow {w0 w w' : World} {F : Nat → Prop} {b base : Nat} {S : CA} {v v' : Value} {zs' : List Int} (o : OwC w0 w F b S) (gr : w.grownBy w' v.ownBlock) (own' : Ints w' base v' zs') (hv : ∀ j, F j → v.ownBlock ≠ some j) (hb : ∀ g, v.ownBlock = some g → w0.heap.size ≤ g) (ob : v'.ownBlock = v.ownBlock ∨ v'.ownBlock = some w.heap.size) : ∃ F', OwC w0 w' F' b S ∧ ∀ j, F' j → v'.ownBlock ≠ some j := by
  have h1 : ∀ j, j < w.heap.size → F j → F j ∧ v'.ownBlock ≠ some j := fun j hj hF => ⟨hF, fun e => by
    rcases ob with ob | ob
    · exact hv j hF (ob.symm.trans e)
    · rw [ob] at e
      injection e with e
      omega⟩
  have h2 : ∀ j, w'.heap.size ≤ j → F j ∧ v'.ownBlock ≠ some j := fun j hj => ⟨o.hi j (Nat.le_trans gr.size hj), fun e => by
    have := own'.lt_ e
    omega⟩
  exact ⟨fun j => F j ∧ v'.ownBlock ≠ some j, ⟨(o.cch.mono h1).frm (G := fun j => v.ownBlock = some j) ⟨gr.os, gr.tape, gr.output, gr.size, fun j hj hn => gr.block j hj (fun e => hn e.symm)⟩ (fun j _ hg hF' => hv j hF'.1 hg), o.low.trans (grown_below gr o.low.size hb), fun j h => o.lo j h.1, h2⟩, fun j h => h.2⟩
end Go.Proofs.Ytlphahkmibhidaa
