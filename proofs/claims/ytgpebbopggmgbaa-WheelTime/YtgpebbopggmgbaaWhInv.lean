/- Plain lists behind package wheel: timers in the turn in which they come, and as they stand in the wheel's lists. -/
import Derived.Test.YtgpebbopggmgbaaWhMath
namespace Go.Proofs.Ytgpebbopggmgbaa
set_option linter.unusedVariables false

/-- Behind all that are due no later. -/
def ins (e : Ent) : List Ent → List Ent
  | [] => [e]
  | x :: xs => if e.d < x.d then e :: x :: xs else x :: ins e xs
theorem ins_perm (e : Ent) : ∀ L, (ins e L).Perm (e :: L)
  | [] => List.Perm.refl _
  | x :: xs => by
    unfold ins
    split
    · exact List.Perm.refl _
    · exact ((ins_perm e xs).cons x).trans (List.Perm.swap e x xs)
theorem mem_ins {e x : Ent} {L : List Ent} : x ∈ ins e L ↔ x = e ∨ x ∈ L := by rw [(ins_perm e L).mem_iff]; simp
theorem length_ins (e : Ent) (L : List Ent) : (ins e L).length = L.length + 1 := (ins_perm e L).length_eq
theorem sorted_ins (e : Ent) : ∀ {L : List Ent}, L.Pairwise (fun a b => a.d ≤ b.d) → (ins e L).Pairwise (fun a b => a.d ≤ b.d)
  | [], _ => by simp [ins]
  | x :: xs, h => by
    obtain ⟨h1, h2⟩ := List.pairwise_cons.1 h
    unfold ins
    split
    · refine List.pairwise_cons.2 ⟨fun y hy => ?_, h⟩
      rcases List.mem_cons.1 hy with rfl | hy
      · omega
      · have := h1 y hy; omega
    · refine List.pairwise_cons.2 ⟨fun y hy => ?_, sorted_ins e h2⟩
      rcases mem_ins.1 hy with rfl | hy
      · omega
      · exact h1 y hy
theorem filter_ins (e : Ent) (c : Int) : ∀ {L : List Ent}, L.Pairwise (fun a b => a.d ≤ b.d) →
    (ins e L).filter (fun x => x.d == c) = L.filter (fun x => x.d == c) ++ (if e.d = c then [e] else [])
  | [], _ => by simp [ins]; split <;> simp_all
  | x :: xs, h => by
    obtain ⟨h1, h2⟩ := List.pairwise_cons.1 h
    unfold ins
    split
    · rename_i hlt
      by_cases hc : e.d = c
      · have hn : (x :: xs).filter (fun y => y.d == c) = [] := by
          rw [List.filter_eq_nil_iff]
          intro y hy
          rcases List.mem_cons.1 hy with rfl | hy
          · simp; omega
          · have := h1 y hy; simp; omega
        rw [List.filter_cons, hn]
        simp [hc]
      · rw [List.filter_cons]
        simp [hc]
    · rw [List.filter_cons, List.filter_cons, filter_ins e c h2]
      split <;> simp

theorem pair_eq {L : List Ent} (h : L.Pairwise (fun a b => a.g ≠ b.g)) {x y : Ent} (hx : x ∈ L) (hy : y ∈ L) (e : x.g = y.g) : x = y := by
  induction L with
  | nil => cases hx
  | cons z zs ih =>
    obtain ⟨h1, h2⟩ := List.pairwise_cons.1 h
    rcases List.mem_cons.1 hx with hx' | hx' <;> rcases List.mem_cons.1 hy with hy' | hy'
    · rw [hx', hy']
    · exact absurd (by rw [← hx', e]) (h1 _ hy')
    · exact absurd (by rw [← hy', e]) (h1 _ hx')
    · exact ih h2 hx' hy'

structure Inv (now : Int) (L : List Ent) (ls : Nat → List Ent) : Prop where
  at_ : ∀ i, i < 257 → ∀ e ∈ ls i, ix now e.d = i
  by_ : ∀ d, (ls (ix now d)).filter (fun e => e.d == d) = L.filter (fun e => e.d == d)
  sorted : L.Pairwise (fun a b => a.d ≤ b.d)
  due : ∀ e ∈ L, now ≤ e.d ∧ e.d ≤ 18446744073709551615
  apart : L.Pairwise (fun a b => a.g ≠ b.g)
  keys : L.Pairwise (fun a b => ¬ (a.k = b.k ∧ a.i = b.i))
  wf : ∀ e ∈ L, -9223372036854775808 ≤ e.k ∧ e.k ≤ 9223372036854775807 ∧ -9223372036854775808 ≤ e.i ∧ e.i ≤ 9223372036854775807
  now0 : 0 ≤ now
  now1 : now ≤ 18446744073709551615

section
variable {now : Int} {L : List Ent} {ls : Nat → List Ent}

theorem inv_new {now : Int} (h : 0 ≤ now) (h' : now ≤ 18446744073709551615) : Inv now [] (fun _ => []) :=
  ⟨by simp, by simp, .nil, by simp, .nil, .nil, by simp, h, h'⟩

theorem Inv.mem (h : Inv now L ls) {i : Nat} (hi : i < 257) {e : Ent} : e ∈ ls i ↔ e ∈ L ∧ ix now e.d = i := by
  constructor
  · intro he
    have hx := h.at_ i hi e he
    have : e ∈ (ls (ix now e.d)).filter (fun x => x.d == e.d) := by simp [hx, he]
    rw [h.by_] at this
    exact ⟨(List.mem_filter.1 this).1, hx⟩
  · rintro ⟨he, rfl⟩
    have : e ∈ L.filter (fun x => x.d == e.d) := by simp [he]
    rw [← h.by_] at this
    exact (List.mem_filter.1 this).1

theorem Inv.ls_apart (h : Inv now L ls) {i : Nat} (hi : i < 257) : (ls i).Pairwise (fun a b => a.g ≠ b.g) := by
  rw [List.pairwise_iff_forall_sublist]
  intro a b hs e
  have ha : a ∈ ls i := hs.subset (by simp)
  have hb : b ∈ ls i := hs.subset (by simp)
  have hab : a = b := pair_eq h.apart ((h.mem hi).1 ha).1 ((h.mem hi).1 hb).1 e
  subst hab
  have h1 := hs.filter (fun x => x.d == a.d)
  have hx := h.at_ i hi a ha
  rw [← hx, h.by_] at h1
  have h2 : [a, a].Sublist L := by
    have := h1.trans List.filter_sublist
    simpa using this
  exact (List.pairwise_iff_forall_sublist.1 h.apart) h2 rfl

theorem Inv.put (h : Inv now L ls) {e : Ent} (hg : ∀ x ∈ L, x.g ≠ e.g) (hk : ∀ x ∈ L, ¬ (x.k = e.k ∧ x.i = e.i)) (hd : now ≤ e.d) (hd' : e.d ≤ 18446744073709551615)
    (hw : -9223372036854775808 ≤ e.k ∧ e.k ≤ 9223372036854775807 ∧ -9223372036854775808 ≤ e.i ∧ e.i ≤ 9223372036854775807) :
    Inv now (ins e L) (fun i => if i = ix now e.d then ls i ++ [e] else ls i) where
  at_ i hi x hx := by
    split at hx
    · rename_i hi'
      rcases List.mem_append.1 hx with hx | hx
      · exact h.at_ i hi x hx
      · obtain rfl : x = e := by simpa using hx
        exact hi'.symm
    · exact h.at_ i hi x hx
  by_ d := by
    rw [filter_ins e d h.sorted]
    split
    · rw [List.filter_append, h.by_]
      congr 1
      by_cases hc : e.d = d <;> simp [hc]
    · rename_i hne
      rw [if_neg (fun hc => hne (by rw [hc])), h.by_]
      simp
  sorted := sorted_ins e h.sorted
  due x hx := by
    rcases mem_ins.1 hx with rfl | hx
    · exact ⟨hd, hd'⟩
    · exact h.due x hx
  apart := ((ins_perm e L).pairwise_iff (fun {a b} (hab : a.g ≠ b.g) => hab.symm)).2 (List.pairwise_cons.2 ⟨fun x hx => (hg x hx).symm, h.apart⟩)
  keys := ((ins_perm e L).pairwise_iff (fun {a b} (hab : ¬ (a.k = b.k ∧ a.i = b.i)) => fun hc => hab ⟨hc.1.symm, hc.2.symm⟩)).2
    (List.pairwise_cons.2 ⟨fun x hx hc => hk x hx ⟨hc.1.symm, hc.2.symm⟩, h.keys⟩)
  wf x hx := by
    rcases mem_ins.1 hx with rfl | hx
    · exact hw
    · exact h.wf x hx
  now0 := h.now0
  now1 := h.now1

/-- Without the one in a block. -/
def del (g : Nat) (L : List Ent) : List Ent := L.filter (fun x => x.g != g)
theorem Inv.del (h : Inv now L ls) (g : Nat) : Inv now (del g L) (fun i => del g (ls i)) where
  at_ i hi x hx := h.at_ i hi x (List.mem_filter.1 hx).1
  by_ d := by
    have e : ∀ l : List Ent, (Proofs.Ytgpebbopggmgbaa.del g l).filter (fun e => e.d == d) = (l.filter (fun e => e.d == d)).filter (fun x => x.g != g) := fun l => by
      unfold Proofs.Ytgpebbopggmgbaa.del
      rw [List.filter_filter, List.filter_filter]
      congr 1
      funext x
      exact Bool.and_comm _ _
    rw [e, e, h.by_]
  sorted := h.sorted.filter _
  due x hx := h.due x (List.mem_filter.1 hx).1
  apart := h.apart.filter _
  keys := h.keys.filter _
  wf x hx := h.wf x (List.mem_filter.1 hx).1
  now0 := h.now0
  now1 := h.now1

theorem del_none {g : Nat} {l : List Ent} (h : ∀ x ∈ l, x.g ≠ g) : del g l = l := by
  unfold del
  rw [List.filter_eq_self]
  intro x hx
  simpa using h x hx
theorem del_split {l1 l2 : List Ent} {e : Ent} (h : (l1 ++ e :: l2).Pairwise (fun a b => a.g ≠ b.g)) : del e.g (l1 ++ e :: l2) = l1 ++ l2 := by
  rw [List.pairwise_append, List.pairwise_cons] at h
  have e1 : del e.g l1 = l1 := del_none (fun x hx => h.2.2 x hx e (by simp))
  have e2 : del e.g l2 = l2 := del_none (fun x hx => (h.2.1.1 x hx).symm)
  unfold del at *
  rw [List.filter_append, List.filter_cons, e1, e2]
  simp
theorem Inv.del_other (h : Inv now L ls) {e : Ent} (he : e ∈ L) {i : Nat} (hi : i < 257) (hne : i ≠ ix now e.d) : Proofs.Ytgpebbopggmgbaa.del e.g (ls i) = ls i :=
  del_none (fun x hx hg => hne (by
    have hx' := (h.mem hi).1 hx
    have := pair_eq h.apart hx'.1 he hg
    rw [← hx'.2, this]))
theorem length_del {L : List Ent} (h : L.Pairwise (fun a b => a.g ≠ b.g)) {e : Ent} (he : e ∈ L) : (del e.g L).length + 1 = L.length := by
  obtain ⟨l1, l2, rfl⟩ := List.append_of_mem he
  rw [del_split h]
  simp
  omega

theorem Inv.turn0 (h : Inv now L ls) {to : Int} (ht : now ≤ to) (ht' : to ≤ 18446744073709551615) (hall : ∀ e ∈ L, to ≤ e.d) (h0 : levS now to = 0) : Inv to L ls where
  at_ i hi e he := by
    rw [turn_zero ht (hall e ((h.mem hi).1 he).1) h0]
    exact h.at_ i hi e he
  by_ d := by
    by_cases hd : to ≤ d
    · rw [turn_zero ht hd h0, h.by_]
    · rw [List.filter_eq_nil_iff.2, List.filter_eq_nil_iff.2]
      · intro e he; have := hall e he; simp; omega
      · intro e he; have := hall e ((h.mem (ix_lt _ _)).1 he).1; simp; omega
  sorted := h.sorted
  due e he := ⟨hall e he, (h.due e he).2⟩
  apart := h.apart
  keys := h.keys
  wf := h.wf
  now0 := by have := h.now0; omega
  now1 := ht'

/-- The lists behind a turn. -/
def turned (ls : Nat → List Ent) (to : Int) (j : Nat) (l : List Ent) (i : Nat) : List Ent := (if i = j then [] else ls i) ++ l.filter (fun e => ix to e.d == i)
theorem Inv.turn1 (h : Inv now L ls) {to : Int} (ht : now ≤ to) (ht' : to ≤ 18446744073709551615) (hall : ∀ e ∈ L, to ≤ e.d) {j : Nat} (hj : j = ixl (levS now to) to) :
    Inv to L (turned ls to j (ls j)) := by
  have hj257 : j < 257 := by rw [hj]; exact ixl_lt (levS_bd _ _).1 _
  have hmem : ∀ i, i < 257 → ∀ e ∈ turned ls to j (ls j) i, e ∈ L := by
    intro i hi e he
    unfold turned at he
    rcases List.mem_append.1 he with he | he
    · split at he
      · cases he
      · exact ((h.mem hi).1 he).1
    · exact ((h.mem hj257).1 (List.mem_filter.1 he).1).1
  refine ⟨?_, ?_, h.sorted, fun e he => ⟨hall e he, (h.due e he).2⟩, h.apart, h.keys, h.wf, by have := h.now0; omega, ht'⟩
  · intro i hi e he
    unfold turned at he
    rcases List.mem_append.1 he with he | he
    · split at he
      · cases he
      · rename_i hij
        have hm := (h.mem hi).1 he
        rw [turn_same ht (hall e hm.1) (by rw [hm.2, ← hj]; exact hij)]
        exact hm.2
    · simpa using (List.mem_filter.1 he).2
  · intro d
    by_cases hd : to ≤ d
    · unfold turned
      rw [List.filter_append]
      by_cases hc : ix now d = j
      · rw [List.filter_eq_nil_iff.2, List.nil_append, List.filter_filter, ← h.by_, hc]
        · refine List.filter_congr fun x hx => ?_
          by_cases hx' : x.d = d
          · simp [hx']
          · simp [hx']
        · intro x hx
          split at hx
          · cases hx
          · rename_i hne
            intro hxd
            have hxd' : x.d = d := by simpa using hxd
            have hm := (h.mem (ix_lt _ _)).1 hx
            rw [hxd', hc] at hm
            exact hne hm.2.symm
      · have hi := turn_same ht hd (by rw [← hj]; exact hc)
        have hz : ((ls j).filter (fun e => ix to e.d == ix now d)).filter (fun e => e.d == d) = [] := by
          rw [List.filter_eq_nil_iff]
          intro x hx hxd
          have hxd' : x.d = d := by simpa using hxd
          have hm := (h.mem hj257).1 (List.mem_filter.1 hx).1
          rw [hxd'] at hm
          exact hc hm.2
        rw [hi, if_neg hc, h.by_, hz, List.append_nil]
    · rw [List.filter_eq_nil_iff.2, List.filter_eq_nil_iff.2]
      · intro e he; have := hall e he; simp; omega
      · intro e he; have := hall e (hmem _ (ix_lt _ _) e he); simp; omega

/-! ### what comes first -/
/-- b is of those that are due first in a list the first one. -/
def Soon (l : List Ent) (b : Ent) : Prop := ∃ l1 l2, l = l1 ++ b :: l2 ∧ (∀ x ∈ l1, b.d < x.d) ∧ ∀ x ∈ l2, b.d ≤ x.d
theorem soon_one (e : Ent) : Soon [e] e := ⟨[], [], rfl, by simp, by simp⟩
theorem Soon.less {l : List Ent} {b x : Ent} (h : Soon l b) (hx : x.d < b.d) : Soon (l ++ [x]) x := by
  obtain ⟨l1, l2, rfl, h1, h2⟩ := h
  refine ⟨l1 ++ b :: l2, [], rfl, fun y hy => ?_, by simp⟩
  rcases List.mem_append.1 hy with hy | hy
  · have := h1 y hy; omega
  · rcases List.mem_cons.1 hy with rfl | hy
    · exact hx
    · have := h2 y hy; omega
theorem Soon.more {l : List Ent} {b x : Ent} (h : Soon l b) (hx : b.d ≤ x.d) : Soon (l ++ [x]) b := by
  obtain ⟨l1, l2, rfl, h1, h2⟩ := h
  refine ⟨l1, l2 ++ [x], by simp, h1, fun y hy => ?_⟩
  rcases List.mem_append.1 hy with hy | hy
  · exact h2 y hy
  · obtain rfl : y = x := by simpa using hy
    exact hx
theorem Soon.least {l : List Ent} {b : Ent} (h : Soon l b) : b ∈ l ∧ (∀ x ∈ l, b.d ≤ x.d) ∧ (l.filter (fun x => x.d == b.d)).head? = some b := by
  obtain ⟨l1, l2, rfl, h1, h2⟩ := h
  refine ⟨by simp, fun y hy => ?_, ?_⟩
  · rcases List.mem_append.1 hy with hy | hy
    · have := h1 y hy; omega
    · rcases List.mem_cons.1 hy with rfl | hy
      · omega
      · exact h2 y hy
  · rw [List.filter_append, List.filter_eq_nil_iff.2, List.nil_append, List.filter_cons]
    · simp
    · intro x hx; have := h1 x hx; simp; omega

/-- Of those of some times the one that comes first. -/
theorem best_head {L : List Ent} (hs : L.Pairwise (fun a b => a.d ≤ b.d)) {b : Ent} (hb : b ∈ L) {p : Int → Bool} (hp : p b.d = true) (hl : ∀ x ∈ L, p x.d = true → b.d ≤ x.d)
    (hh : (L.filter (fun x => x.d == b.d)).head? = some b) : (L.filter (fun x => p x.d)).head? = some b := by
  cases hf : L.filter (fun x => p x.d) with
  | nil =>
    have : b ∈ L.filter (fun x => p x.d) := by simp [hb, hp]
    rw [hf] at this
    cases this
  | cons y ys =>
    have hy : y ∈ L.filter (fun x => p x.d) := by rw [hf]; simp
    have hy1 := List.mem_filter.1 hy
    have h1 := hl y hy1.1 hy1.2
    have hsf := hs.filter (fun x => p x.d)
    rw [hf] at hsf
    have hbf : b ∈ y :: ys := by rw [← hf]; simp [hb, hp]
    have h2 : y.d ≤ b.d := by
      rcases List.mem_cons.1 hbf with rfl | hbf
      · omega
      · exact (List.pairwise_cons.1 hsf).1 b hbf
    have e : L.filter (fun x => x.d == b.d) = (L.filter (fun x => p x.d)).filter (fun x => x.d == b.d) := by
      rw [List.filter_filter]
      refine List.filter_congr fun x hx => ?_
      by_cases hc : x.d = b.d
      · simp [hc, hp]
      · simp [hc]
    rw [e, hf, List.filter_cons] at hh
    have hyd : y.d = b.d := by omega
    simpa [hyd] using hh

theorem Inv.head_of (h : Inv now L ls) {i : Nat} (hi : i < 257) {b : Ent} (hb : b ∈ ls i) (hh : ((ls i).filter (fun x => x.d == b.d)).head? = some b) : b ∈ L ∧ (L.filter (fun x => x.d == b.d)).head? = some b := by
  have hm := (h.mem hi).1 hb
  rw [← h.by_, hm.2]
  exact ⟨hm.1, hh⟩

/-- What firstOf tells. -/
def LevFirst (now : Int) (L : List Ent) (l : Int) (r : Option Ent) : Prop :=
  match r with
  | none => ∀ x ∈ L, levS now x.d ≠ l
  | some b => b ∈ L ∧ levS now b.d = l ∧ (∀ x ∈ L, levS now x.d = l → b.d ≤ x.d) ∧ (L.filter (fun x => x.d == b.d)).head? = some b

theorem Inv.lev_none (h : Inv now L ls) {l : Nat} (hl : l < 4) (hn : ∀ s, s < 64 → ls (l * 64 + s) = []) : LevFirst now L l none := by
  intro x hx he
  have hs := slS_bd x.d (levS now x.d)
  have hi : ix now x.d = l * 64 + (slS x.d l).toNat := by
    have := ixl_near (l := levS now x.d) (by omega) (by omega) x.d
    unfold ix
    rw [he] at this hs ⊢
    omega
  have := (h.mem (ix_lt _ _)).2 ⟨hx, rfl⟩
  rw [he] at hs
  rw [hi, hn _ (by omega)] at this
  cases this

theorem Inv.lev_some (h : Inv now L ls) {l s : Nat} (hl : l < 4) (hs : s < 64) (hn : ∀ s', s' < s → ls (l * 64 + s') = []) {b : Ent}
    (hb : (l = 0 ∧ (ls (l * 64 + s)).head? = some b) ∨ Soon (ls (l * 64 + s)) b) : LevFirst now L l (some b) := by
  have hi : l * 64 + s < 257 := by omega
  have hbs : b ∈ ls (l * 64 + s) ∧ (∀ x ∈ ls (l * 64 + s), b.d ≤ x.d) ∧ ((ls (l * 64 + s)).filter (fun x => x.d == b.d)).head? = some b := by
    rcases hb with ⟨rfl, hb⟩ | hb
    · have hm : b ∈ ls (0 * 64 + s) := List.mem_of_mem_head? hb
      have hbl := ix_level (l := 0) (s := s) (by omega) hs (h.at_ _ hi b hm)
      have hall : ∀ x ∈ ls (0 * 64 + s), x.d = b.d := fun x hx => by
        have hxl := ix_level (l := 0) (s := s) (by omega) hs (h.at_ _ hi x hx)
        exact slot_zero hxl.1 hbl.1 (hxl.2.trans hbl.2.symm)
      refine ⟨hm, fun x hx => by rw [hall x hx]; omega, ?_⟩
      rw [List.filter_eq_self.2 (fun x hx => by simp [hall x hx])]
      exact hb
    · exact hb.least
  obtain ⟨hm, hle, hhd⟩ := hbs
  obtain ⟨hL, hhd'⟩ := h.head_of hi hm hhd
  have hbl := ix_level hl hs (h.at_ _ hi b hm)
  refine ⟨hL, hbl.1, fun x hx he => ?_, hhd'⟩
  have hsx := slS_bd x.d l
  have hix : ix now x.d = l * 64 + (slS x.d l).toNat := by
    have := ixl_near (l := levS now x.d) (by omega) (by omega) x.d
    unfold ix
    rw [he] at this ⊢
    omega
  have hmx := (h.mem (ix_lt _ _)).2 ⟨hx, rfl⟩
  rw [hix] at hmx
  rcases Nat.lt_trichotomy (slS x.d l).toNat s with hlt | heq | hgt
  · rw [hn _ hlt] at hmx
    cases hmx
  · rw [heq] at hmx
    exact hle x hmx
  · have := slot_order hl hbl.1 he (by rw [hbl.2]; omega)
    omega

theorem Inv.far (h : Inv now L ls) {b : Ent} (hb : Soon (ls 256) b) : LevFirst now L 4 (some b) := by
  obtain ⟨hm, hle, hhd⟩ := hb.least
  obtain ⟨hL, hhd'⟩ := h.head_of (by omega) hm hhd
  refine ⟨hL, ix_far (h.at_ _ (by omega) b hm), fun x hx he => ?_, hhd'⟩
  refine hle x ((h.mem (by omega)).2 ⟨hx, ?_⟩)
  unfold ix ixl
  rw [he]; rfl
theorem Inv.far_none (h : Inv now L ls) (hb : ls 256 = []) : LevFirst now L 4 none := by
  intro x hx he
  have : x ∈ ls 256 := (h.mem (by omega)).2 ⟨hx, by unfold ix ixl; rw [he]; rfl⟩
  rw [hb] at this
  cases this

/-- The timer that comes first of the levels up to one. -/
def upTo (now : Int) (L : List Ent) (top : Int) : Option Ent := (L.filter (fun x => decide (levS now x.d ≤ top))).head?
theorem upTo_some (hs : L.Pairwise (fun a b => a.d ≤ b.d)) (hd : ∀ e ∈ L, now ≤ e.d) {l top : Int} (hn : ∀ l', 0 ≤ l' → l' < l → LevFirst now L l' none) {b : Ent} (hb : LevFirst now L l (some b)) (htop : l ≤ top) : some b = upTo now L top := by
  refine (best_head (p := fun d => decide (levS now d ≤ top)) hs hb.1 (by simp [hb.2.1, htop]) (fun x hx _ => ?_) hb.2.2.2).symm
  by_cases h1 : levS now x.d = l
  · exact hb.2.2.1 x hx h1
  · by_cases h2 : levS now x.d < l
    · exact absurd rfl (hn _ (levS_bd _ _).1 h2 x hx)
    · have h3 := hd x hx
      by_cases h4 : x.d < b.d
      · have := lev_mono (now := now) h3 (Int.le_of_lt h4)
        have := hb.2.1
        omega
      · omega
theorem upTo_none {top : Int} (hn : ∀ l', 0 ≤ l' → l' ≤ top → LevFirst now L l' none) : none = upTo now L top := by
  unfold upTo
  rw [List.filter_eq_nil_iff.2]
  · rfl
  · intro x hx hl
    exact hn _ (levS_bd _ _).1 (by simpa using hl) x hx rfl
theorem upTo_all (now : Int) (L : List Ent) : upTo now L 4 = L.head? := by
  unfold upTo
  rw [List.filter_eq_self.2]
  intro x _
  simpa using (levS_bd now x.d).2
theorem upTo_hit {to : Int} {e : Ent} {r : List Ent} (hd : now ≤ e.d) (h : e.d ≤ to) : upTo now (e :: r) (levS now to) = some e := by
  unfold upTo
  rw [List.filter_cons, if_pos (by simpa using lev_mono hd h)]
  rfl
theorem upTo_miss {top to : Int} (h : ∀ e ∈ L, to < e.d) : ∀ e, upTo now L top = some e → to < e.d := by
  intro e he
  have := List.mem_of_mem_head? he
  exact h e (List.mem_filter.1 this).1
end

end Go.Proofs.Ytgpebbopggmgbaa
