/- The cache as plain lists: who leads for a key, what it was told, who joined; asking, settling, closing. No walk in it. -/
import Derived.Test.YtlphahkmibhidaaBlk
namespace Go.Proofs.Ytlphahkmibhidaa
set_option linter.unusedVariables false

/-- Three integers: a key (scope, dependency, argument), or what was told (kind, cause, value). -/
structure K3 where
  a : Int
  b : Int
  c : Int
instance : DecidableEq K3 := fun x y => decidable_of_iff (x.a = y.a ∧ x.b = y.b ∧ x.c = y.c) ⟨fun h => by cases x; cases y; simp at h; simp [h], fun h => by subst h; exact ⟨rfl, rfl, rfl⟩⟩
def zero3 : K3 := ⟨0, 0, 0⟩
def wf3 (k : K3) : Prop := wf64 k.a ∧ wf64 k.b ∧ wf64 k.c
theorem wf3_zero : wf3 zero3 := ⟨⟨by decide, by decide⟩, ⟨by decide, by decide⟩, ⟨by decide, by decide⟩⟩
/-- A key: who leads, whether and what it was told. -/
structure CE where
  k : K3
  id : Int
  done : Bool
  t : K3
def CE.sets (e : CE) (id : Int) (t : K3) : CE := if e.id = id then ⟨e.k, e.id, true, t⟩ else e
theorem CE.sets_k (e : CE) (id : Int) (t : K3) : (e.sets id t).k = e.k := by unfold CE.sets; split <;> rfl
theorem CE.sets_id (e : CE) (id : Int) (t : K3) : (e.sets id t).id = e.id := by unfold CE.sets; split <;> rfl
/-- Keys, and who joined whom (who leads, who joined); q: how many joined in all. -/
structure CA where
  E : List CE
  J : List (Int × Int)
  q : Nat
namespace CA
def none_ : CA := ⟨[], [], 0⟩
def at_ (S : CA) (k : K3) : Option CE := S.E.find? (fun e => decide (e.k = k))
def asks (S : CA) (k : K3) : Int := if k.a = 0 then 1 else match S.at_ k with | none => 1 | some e => if e.done then 3 else 2
def tell (S : CA) (k : K3) : K3 := if k.a = 0 then zero3 else match S.at_ k with | none => zero3 | some e => if e.done then e.t else zero3
def ask (S : CA) (k : K3) (id : Int) : CA := if k.a = 0 then S else match S.at_ k with | none => ⟨S.E ++ [⟨k, id, false, zero3⟩], S.J, S.q⟩ | some e => if e.done then S else ⟨S.E, S.J ++ [(e.id, id)], S.q + 1⟩
def joined (S : CA) (id : Int) : List Int := (S.J.filter (fun p => decide (p.1 = id))).map (·.2)
def settle (S : CA) (id : Int) (t : K3) : CA := ⟨S.E.map (fun e => e.sets id t), S.J.filter (fun p => !decide (p.1 = id)), S.q⟩
def closed (S : CA) (s : Int) : Nat := (S.E.filter (fun e => decide (e.k.a = s))).length
def close (S : CA) (s : Int) : CA := ⟨S.E.filter (fun e => !decide (e.k.a = s)), S.J, S.q⟩
def size (S : CA) : Nat := S.E.length + S.q

theorem at_some {S : CA} {k : K3} {e : CE} (h : S.at_ k = some e) : e ∈ S.E ∧ e.k = k := ⟨List.mem_of_find?_eq_some h, by simpa using List.find?_some h⟩
theorem at_none {S : CA} {k : K3} (h : S.at_ k = none) : ∀ e ∈ S.E, e.k ≠ k := fun e he => by simpa using List.find?_eq_none.1 h e he
/-- The ways by which Ask goes. -/
theorem ways (S : CA) (k : K3) (id : Int) :
    (k.a = 0 ∧ S.asks k = 1 ∧ S.tell k = zero3 ∧ S.ask k id = S) ∨
    (k.a ≠ 0 ∧ S.at_ k = none ∧ S.asks k = 1 ∧ S.tell k = zero3 ∧ S.ask k id = ⟨S.E ++ [⟨k, id, false, zero3⟩], S.J, S.q⟩) ∨
    (k.a ≠ 0 ∧ ∃ e, S.at_ k = some e ∧ e.done = true ∧ S.asks k = 3 ∧ S.tell k = e.t ∧ S.ask k id = S) ∨
    (k.a ≠ 0 ∧ ∃ e, S.at_ k = some e ∧ e.done = false ∧ S.asks k = 2 ∧ S.tell k = zero3 ∧ S.ask k id = ⟨S.E, S.J ++ [(e.id, id)], S.q + 1⟩) := by
  by_cases h0 : k.a = 0
  · exact .inl ⟨h0, by simp [asks, h0], by simp [tell, h0], by simp [ask, h0]⟩
  · right
    cases h : S.at_ k with
    | none => exact .inl ⟨h0, rfl, by simp [asks, h0, h], by simp [tell, h0, h], by simp [ask, h0, h]⟩
    | some e =>
      right
      cases hd : e.done
      · exact .inr ⟨h0, e, rfl, hd, by simp [asks, h0, h, hd], by simp [tell, h0, h, hd], by simp [ask, h0, h, hd]⟩
      · exact .inl ⟨h0, e, rfl, hd, by simp [asks, h0, h, hd], by simp [tell, h0, h, hd], by simp [ask, h0, h, hd]⟩

structure Ok (S : CA) : Prop where
  keys : S.E.Pairwise (fun a b => a.k ≠ b.k)
  scope : ∀ e ∈ S.E, e.k.a ≠ 0
  fitE : ∀ e ∈ S.E, wf3 e.k ∧ wf64 e.id ∧ wf3 e.t
  fitJ : ∀ p ∈ S.J, wf64 p.1 ∧ wf64 p.2
  le : S.J.length ≤ S.q
theorem ok_none : none_.Ok := ⟨List.Pairwise.nil, by simp [none_], by simp [none_], by simp [none_], Nat.le_refl _⟩
theorem Ok.ask {S : CA} (h : S.Ok) {k : K3} {id : Int} (hk : wf3 k) (hid : wf64 id) : (S.ask k id).Ok := by
  rcases S.ways k id with ⟨_, _, _, e⟩ | ⟨h0, hn, _, _, e⟩ | ⟨_, x, _, _, _, _, e⟩ | ⟨h0, x, hx, _, _, _, e⟩
  · rw [e]; exact h
  · rw [e]
    refine ⟨List.pairwise_append.2 ⟨h.keys, by simp, fun a ha c hc => ?_⟩, fun a ha => ?_, fun a ha => ?_, h.fitJ, h.le⟩
    · rw [List.mem_singleton] at hc
      rw [hc]
      exact at_none hn a ha
    · rcases List.mem_append.1 ha with ha | ha
      · exact h.scope a ha
      · rw [List.mem_singleton.1 ha]; exact h0
    · rcases List.mem_append.1 ha with ha | ha
      · exact h.fitE a ha
      · rw [List.mem_singleton.1 ha]; exact ⟨hk, hid, wf3_zero⟩
  · rw [e]; exact h
  · rw [e]
    refine ⟨h.keys, h.scope, h.fitE, fun p hp => ?_, by have := h.le; simp; exact this⟩
    rcases List.mem_append.1 hp with hp | hp
    · exact h.fitJ p hp
    · rw [List.mem_singleton.1 hp]; exact ⟨(h.fitE x (at_some hx).1).2.1, hid⟩
theorem Ok.settle {S : CA} (h : S.Ok) (id : Int) {t : K3} (ht : wf3 t) : (S.settle id t).Ok := by
  refine ⟨?_, fun a ha => ?_, fun a ha => ?_, fun p hp => h.fitJ p (List.mem_filter.1 hp).1, Nat.le_trans (List.length_filter_le _ _) h.le⟩
  · show (S.E.map _).Pairwise _
    rw [List.pairwise_map]
    exact h.keys.imp (fun hne => by rw [CE.sets_k, CE.sets_k]; exact hne)
  · obtain ⟨e, he, rfl⟩ := List.mem_map.1 ha
    rw [CE.sets_k]; exact h.scope e he
  · obtain ⟨e, he, rfl⟩ := List.mem_map.1 ha
    have := h.fitE e he
    unfold CE.sets
    split
    · exact ⟨this.1, this.2.1, ht⟩
    · exact this
theorem Ok.close {S : CA} (h : S.Ok) (s : Int) : (S.close s).Ok :=
  ⟨h.keys.sublist List.filter_sublist, fun a ha => h.scope a (List.mem_filter.1 ha).1, fun a ha => h.fitE a (List.mem_filter.1 ha).1, h.fitJ, h.le⟩
theorem Ok.tell {S : CA} (h : S.Ok) (k : K3) : wf3 (S.tell k) := by
  rcases S.ways k 0 with ⟨_, _, e, _⟩ | ⟨_, _, _, e, _⟩ | ⟨_, x, hx, _, _, e, _⟩ | ⟨_, x, _, _, _, e, _⟩ <;> rw [e]
  · exact wf3_zero
  · exact wf3_zero
  · exact (h.fitE x (at_some hx).1).2.2
  · exact wf3_zero
theorem Ok.joined {S : CA} (h : S.Ok) (z : Int) : ∀ x ∈ S.joined z, wf64 x := fun x hx => by
  obtain ⟨p, hp, rfl⟩ := List.mem_map.1 hx
  exact (h.fitJ p (List.mem_filter.1 hp).1).2
theorem asks_wf (S : CA) (k : K3) : S.asks k = 1 ∨ S.asks k = 2 ∨ S.asks k = 3 := by
  rcases S.ways k 0 with ⟨_, e, _⟩ | ⟨_, _, e, _⟩ | ⟨_, x, _, _, e, _⟩ | ⟨_, x, _, _, e, _⟩ <;> simp [e]
theorem ask_size (S : CA) (k : K3) (id : Int) : (S.ask k id).size ≤ S.size + 1 := by
  rcases S.ways k id with ⟨_, _, _, e⟩ | ⟨_, _, _, _, e⟩ | ⟨_, x, _, _, _, _, e⟩ | ⟨_, x, _, _, _, _, e⟩ <;> rw [e] <;> simp [size] <;> omega
theorem settle_size (S : CA) (id : Int) (t : K3) : (S.settle id t).size ≤ S.size := by
  simp [size, settle]
theorem close_size (S : CA) (s : Int) : (S.close s).size ≤ S.size := by
  have := List.length_filter_le (fun e : CE => !decide (e.k.a = s)) S.E
  simp [size, close]
  exact this
theorem close_len (S : CA) (s : Int) : S.closed s + (S.close s).E.length = S.E.length := by
  unfold closed close
  induction S.E with
  | nil => rfl
  | cons e l ih =>
    simp only at ih
    by_cases h : e.k.a = s <;> simp [h] <;> omega
theorem joined_len (S : CA) (z : Int) : (S.joined z).length ≤ S.J.length := by
  unfold joined
  rw [List.length_map]
  exact List.length_filter_le _ _
theorem joined_part (S : CA) (z : Int) (t : K3) : (S.joined z).length + (S.settle z t).J.length = S.J.length := by
  unfold joined settle
  rw [List.length_map]
  simp only
  induction S.J with
  | nil => rfl
  | cons e l ih => by_cases h : e.1 = z <;> simp [h] <;> omega
theorem joined_more (S : CA) (E : List CE) (q : Nat) (a x z : Int) : (⟨E, S.J ++ [(a, x)], q⟩ : CA).joined z = if z = a then S.joined z ++ [x] else S.joined z := by
  unfold joined
  simp only [List.filter_append, List.map_append]
  by_cases h : z = a
  · subst h; simp
  · have : ¬ a = z := fun e => h e.symm
    simp [h, this]
theorem joined_settle (S : CA) (id : Int) (t : K3) (z : Int) : (S.settle id t).joined z = if z = id then [] else S.joined z := by
  unfold joined settle
  simp only [List.filter_filter]
  by_cases h : z = id
  · subst h
    simp
  · simp only [if_neg h]
    congr 1
    apply List.filter_congr
    intro p _
    by_cases hp : p.1 = z
    · have : ¬ p.1 = id := fun e => h (hp.symm.trans e)
      simp [hp, h]
    · simp [hp]
theorem joined_same {S S' : CA} (h : S.J = S'.J) (z : Int) : S.joined z = S'.joined z := by unfold joined; rw [h]
end CA
end Go.Proofs.Ytlphahkmibhidaa
