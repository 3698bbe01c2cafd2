/- The memory of a wheel: its block, its entries' blocks, linked to lists; what a store leaves of them. -/
import Derived.Test.YtgpebbopggmgbaaWhAdd
import Derived.Test.YtgpebbopggmgbaaWhInv
namespace Go.Proofs.Ytgpebbopggmgbaa
set_option linter.unusedVariables false
open Go.ChangeShapes Go.WideShapes Go.ChangeAt Go.RowKit

/-! ### worlds -/
theorem heap_set_same {w : World} {g o : Nat} {t : TypeId} {cs : Array Value} {f : Nat × Nat} (h : w.heap[g]? = some (.cells cs t f)) (u : Value) : (w.setCell ⟨g, o, none⟩ u).heap[g]? = some (.cells (cs.setIfInBounds o u) t f) := by
  simp [World.setCell, Array.getElem?_modify, h]
theorem heap_set_other {w : World} {p : Addr} {k : Nat} (h : k ≠ p.block) (u : Value) : (w.setCell p u).heap[k]? = w.heap[k]? := Below.heap_setCell w p u k h
theorem heap_set_size (w : World) (p : Addr) (u : Value) : (w.setCell p u).heap.size = w.heap.size := by simp [World.setCell]
theorem heap_alloc_lt {w : World} {o : Obj} {k : Nat} (h : k < w.heap.size) : (w.alloc o).heap[k]? = w.heap[k]? := Below.heap_alloc w o k h
theorem heap_alloc_at (w : World) (o : Obj) : (w.alloc o).heap[w.heap.size]? = some o := by
  show (w.heap.push o)[w.heap.size]? = _
  simp
theorem heap_lt {w : World} {k : Nat} {o : Obj} (h : w.heap[k]? = some o) : k < w.heap.size := (Array.getElem?_eq_some_iff.1 h).1
theorem cell_of {w : World} {g : Nat} {t : TypeId} {cs : Array Value} {f : Nat × Nat} (h : w.heap[g]? = some (.cells cs t f)) (o : Nat) : w.cell? ⟨g, o, none⟩ = cs[o]? := by simp [World.cell?, h]
theorem frozen_of {w : World} {g : Nat} {t : TypeId} {cs : Array Value} (h : w.heap[g]? = some (.cells cs t (0, 0))) (o : Nat) : w.frozen? ⟨g, o, none⟩ = false := by simp [World.frozen?, h]

/-- Of the blocks that were there none has turned but those of F. -/
structure Frm (F : Nat → Prop) (w w' : World) : Prop where
  os : w'.os = w.os
  tape : w'.tape = w.tape
  output : w'.output = w.output
  size : w.heap.size ≤ w'.heap.size
  block : ∀ j, j < w.heap.size → ¬ F j → w'.heap[j]? = w.heap[j]?
theorem Frm.refl (F : Nat → Prop) (w : World) : Frm F w w := ⟨rfl, rfl, rfl, Nat.le_refl _, fun _ _ _ => rfl⟩
theorem Frm.trans {F F' : Nat → Prop} {a b c : World} (h : Frm F a b) (k : Frm F' b c) (hF : ∀ j, j < a.heap.size → F' j → F j) : Frm F a c :=
  ⟨k.os.trans h.os, k.tape.trans h.tape, k.output.trans h.output, Nat.le_trans h.size k.size, fun j hj hn => (k.block j (Nat.lt_of_lt_of_le hj h.size) (fun hf => hn (hF j hj hf))).trans (h.block j hj hn)⟩
theorem Frm.mono {F F' : Nat → Prop} {a b : World} (h : Frm F a b) (hF : ∀ j, j < a.heap.size → F j → F' j) : Frm F' a b :=
  ⟨h.os, h.tape, h.output, h.size, fun j hj hn => h.block j hj (fun hf => hn (hF j hj hf))⟩
theorem Frm.ali {F : Nat → Prop} {a b c : World} (h : Frm F a b) (k : Ali b c) : Frm F a c :=
  ⟨k.os.trans h.os, k.tape.trans h.tape, k.output.trans h.output, by rw [k.heap]; exact h.size, fun j hj hn => by rw [k.heap]; exact h.block j hj hn⟩
theorem Frm.set {F : Nat → Prop} {a w : World} (h : Frm F a w) {p : Addr} (hp : F p.block) (u : Value) : Frm F a (w.setCell p u) :=
  ⟨h.os, h.tape, h.output, by rw [heap_set_size]; exact h.size, fun j hj hn => by rw [heap_set_other (fun e => hn (by rw [e]; exact hp))]; exact h.block j hj hn⟩
theorem Frm.alloc {F : Nat → Prop} {a w : World} (h : Frm F a w) (o : Obj) : Frm F a (w.alloc o) :=
  ⟨h.os, h.tape, h.output, by have := h.size; simp; omega, fun j hj hn => by rw [heap_alloc_lt (Nat.lt_of_lt_of_le hj h.size)]; exact h.block j hj hn⟩
theorem Frm.below {F : Nat → Prop} {w w' : World} (h : Frm F w w') {B : Nat} (hB : B ≤ w.heap.size) (hF : ∀ j, j < B → ¬ F j) : Below B w w' :=
  ⟨h.os, h.tape, h.output, h.size, fun j hj => h.block j (by omega) (hF j hj)⟩
theorem Frm.of_below {F : Nat → Prop} {w w' : World} (h : Below w.heap.size w w') : Frm F w w' := ⟨h.os, h.tape, h.output, h.size, fun j hj _ => h.block j hj⟩
theorem Frm.of_grown {F : Nat → Prop} {w w' : World} {m : Nat} (h : w.grownBy w' (some m)) (hm : F m) : Frm F w w' :=
  ⟨h.os, h.tape, h.output, h.size, fun j hj hn => h.block j hj (fun e => hn (by injection e with e; rw [e]; exact hm))⟩

/-! ### entries, linked -/
def ptr (o : Option Ent) : Value := .pointer (o.map fun e => ⟨e.g, 0, none⟩)
theorem ptr_none : ptr none = .pointer none := rfl
theorem ptr_some (e : Ent) : ptr (some e) = .pointer (some ⟨e.g, 0, none⟩) := rfl
def EntAt (w : World) (e : Ent) (p n : Option Ent) : Prop :=
  w.heap[e.g]? = some (.cells #[.int .i64 e.k, .int .i64 e.i, .int .u64 e.d, ptr p, ptr n] 72 (0, 0))
theorem EntAt.keep {w w' : World} {e : Ent} {p n : Option Ent} (h : EntAt w e p n) (hk : w'.heap[e.g]? = w.heap[e.g]?) : EntAt w' e p n := by unfold EntAt at *; rw [hk]; exact h
theorem EntAt.lt {w : World} {e : Ent} {p n : Option Ent} (h : EntAt w e p n) : e.g < w.heap.size := heap_lt h
theorem EntAt.set3 {w : World} {e : Ent} {p n : Option Ent} (h : EntAt w e p n) (q : Option Ent) : EntAt (w.setCell ⟨e.g, 3, none⟩ (ptr q)) e q n := by
  unfold EntAt at *; rw [heap_set_same h]; rfl
theorem EntAt.set4 {w : World} {e : Ent} {p n : Option Ent} (h : EntAt w e p n) (q : Option Ent) : EntAt (w.setCell ⟨e.g, 4, none⟩ (ptr q)) e p q := by
  unfold EntAt at *; rw [heap_set_same h]; rfl
theorem EntAt.far {w : World} {e : Ent} {p n : Option Ent} (h : EntAt w e p n) {a : Addr} (ha : e.g ≠ a.block) (u : Value) : EntAt (w.setCell a u) e p n := h.keep (heap_set_other ha u)
theorem EntAt.ali {w w' : World} {e : Ent} {p n : Option Ent} (h : EntAt w e p n) (k : Ali w w') : EntAt w' e p n := h.keep (by rw [k.heap])
/-- No entry's block is a wheel's. -/
theorem EntAt.ne {w : World} {e : Ent} {p n : Option Ent} (h : EntAt w e p n) {b : Nat} {cs : Array Value} {t : TypeId} {f : Nat × Nat} (hb : w.heap[b]? = some (.cells cs t f)) (ht : t ≠ 72) : e.g ≠ b := by
  rintro rfl
  unfold EntAt at h
  rw [h] at hb
  injection hb with hb
  injection hb with _ hb
  exact ht hb.symm

def Seg (w : World) : Option Ent → List Ent → Option Ent → Prop
  | _, [], _ => True
  | p, e :: es, nx => EntAt w e p (es.head?.or nx) ∧ Seg w (some e) es nx
theorem Seg.keep {w w' : World} : ∀ {p : Option Ent} {l : List Ent} {nx : Option Ent}, Seg w p l nx → (∀ x ∈ l, w'.heap[x.g]? = w.heap[x.g]?) → Seg w' p l nx
  | _, [], _, _, _ => trivial
  | _, e :: es, _, h, hk => ⟨h.1.keep (hk e (by simp)), Seg.keep h.2 (fun x hx => hk x (by simp [hx]))⟩
theorem seg_append {w : World} {nx : Option Ent} {l2 : List Ent} : ∀ {l1 : List Ent} {p : Option Ent}, Seg w p (l1 ++ l2) nx ↔ Seg w p l1 (l2.head?.or nx) ∧ Seg w (l1.getLast?.or p) l2 nx
  | [], p => by simp [Seg]
  | e :: es, p => by
    have ih := seg_append (w := w) (nx := nx) (l2 := l2) (l1 := es) (p := some e)
    have e1 : (e :: es).getLast?.or p = es.getLast?.or (some e) := by
      rw [List.getLast?_cons]
      cases es.getLast? <;> rfl
    rw [List.cons_append, e1]
    simp only [Seg]
    rw [ih, List.head?_append, Option.or_assoc]
    exact and_assoc.symm
theorem Seg.at_ {w : World} : ∀ {p : Option Ent} {l : List Ent} {nx : Option Ent}, Seg w p l nx → ∀ x ∈ l, ∃ q n, EntAt w x q n
  | _, e :: es, _, h, x, hx => by
    rcases List.mem_cons.1 hx with rfl | hx
    · exact ⟨_, _, h.1⟩
    · exact Seg.at_ h.2 x hx

/-! ### the wheel's block -/
def Heads (cs : Array Value) (now : Int) (m : Nat) (ls : Nat → List Ent) : Prop :=
  cs.size = 516 ∧ cs[0]? = some (.int .u64 now) ∧ cs[1]? = some (.map (some m)) ∧ ∀ i, i < 257 → cs[2 + 2 * i]? = some (ptr (ls i).head?) ∧ cs[2 + 2 * i + 1]? = some (ptr (ls i).getLast?)
def upd (ls : Nat → List Ent) (i : Nat) (l : List Ent) : Nat → List Ent := fun j => if j = i then l else ls j
theorem Heads.turn {cs cs' : Array Value} {now : Int} {m : Nat} {ls : Nat → List Ent} (h : Heads cs now m ls) {i : Nat} {l : List Ent} (hs : cs'.size = cs.size)
    (ho : ∀ j, j ≠ 2 + 2 * i → j ≠ 2 + 2 * i + 1 → cs'[j]? = cs[j]?) (h0 : cs'[2 + 2 * i]? = some (ptr l.head?)) (h1 : cs'[2 + 2 * i + 1]? = some (ptr l.getLast?)) : Heads cs' now m (upd ls i l) := by
  refine ⟨hs.trans h.1, (ho 0 (by omega) (by omega)).trans h.2.1, (ho 1 (by omega) (by omega)).trans h.2.2.1, fun j hj => ?_⟩
  unfold upd
  split
  · rename_i e; subst e; exact ⟨h0, h1⟩
  · rename_i e
    rw [ho _ (by omega) (by omega), ho _ (by omega) (by omega)]
    exact h.2.2.2 j hj

structure Mem (w : World) (b m : Nat) (now : Int) (ls : Nat → List Ent) : Prop where
  blk : ∃ cs, w.heap[b]? = some (.cells cs 64 (0, 0)) ∧ Heads cs now m ls
  lnk : ∀ i, i < 257 → Seg w none (ls i) none

/-- No two entries of the lists lie in one block. -/
structure Apart (ls : Nat → List Ent) : Prop where
  one : ∀ i, i < 257 → (ls i).Pairwise (fun a b => a.g ≠ b.g)
  two : ∀ i, i < 257 → ∀ j, j < 257 → i ≠ j → ∀ x ∈ ls i, ∀ y ∈ ls j, x.g ≠ y.g
theorem Inv.apart_ls {now : Int} {L : List Ent} {ls : Nat → List Ent} (h : Inv now L ls) : Apart ls :=
  ⟨fun i hi => h.ls_apart hi, fun i hi j hj hne x hx y hy e => hne (by
    have hx' := (h.mem hi).1 hx
    have hy' := (h.mem hj).1 hy
    have := pair_eq h.apart hx'.1 hy'.1 e
    rw [← hx'.2, ← hy'.2, this])⟩

theorem Mem.ent {w : World} {b m : Nat} {now : Int} {ls : Nat → List Ent} (h : Mem w b m now ls) {i : Nat} (hi : i < 257) {x : Ent} (hx : x ∈ ls i) : ∃ q n, EntAt w x q n := (h.lnk i hi).at_ x hx
theorem Mem.ne {w : World} {b m : Nat} {now : Int} {ls : Nat → List Ent} (h : Mem w b m now ls) {e : Ent} {p n : Option Ent} (he : EntAt w e p n) : e.g ≠ b := by
  obtain ⟨cs, hb, _⟩ := h.blk
  exact he.ne hb (by decide)
theorem Mem.ali {w w' : World} {b m : Nat} {now : Int} {ls : Nat → List Ent} (h : Mem w b m now ls) (k : Ali w w') : Mem w' b m now ls := by
  obtain ⟨cs, hb, hh⟩ := h.blk
  exact ⟨⟨cs, by rw [k.heap]; exact hb, hh⟩, fun i hi => (h.lnk i hi).keep (fun _ _ => by rw [k.heap])⟩
theorem Mem.keep {w w' : World} {b m : Nat} {now : Int} {ls : Nat → List Ent} (h : Mem w b m now ls) (hb : w'.heap[b]? = w.heap[b]?) (hk : ∀ i, i < 257 → ∀ x ∈ ls i, w'.heap[x.g]? = w.heap[x.g]?) : Mem w' b m now ls := by
  obtain ⟨cs, hb', hh⟩ := h.blk
  exact ⟨⟨cs, hb.trans hb', hh⟩, fun i hi => (h.lnk i hi).keep (hk i hi)⟩

section
variable {w : World} {b m : Nat} {now : Int} {ls : Nat → List Ent}

/-- Onto an empty list. -/
theorem Mem.add_none (h : Mem w b m now ls) {i : Nat} (hi : i < 257) {e : Ent} {p n : Option Ent} (he : EntAt w e p n) (hf : ∀ j, j < 257 → ∀ x ∈ ls j, x.g ≠ e.g) (hl : ls i = []) :
    Mem ((((w.setCell ⟨e.g, 3, none⟩ (ptr none)).setCell ⟨e.g, 4, none⟩ (ptr none)).setCell ⟨b, 2 + 2 * i, none⟩ (ptr (some e))).setCell ⟨b, 2 + 2 * i + 1, none⟩ (ptr (some e))) b m now (upd ls i (ls i ++ [e])) := by
  have hbe := h.ne he
  have hnb : ∀ j, j < 257 → ∀ x ∈ ls j, x.g ≠ b := fun j hj x hx => by obtain ⟨q, r, hx'⟩ := h.ent hj hx; exact h.ne hx'
  obtain ⟨cs, hb, hh⟩ := h.blk
  refine ⟨⟨(cs.setIfInBounds (2 + 2 * i) (ptr (some e))).setIfInBounds (2 + 2 * i + 1) (ptr (some e)), ?_, ?_⟩, fun j hj => ?_⟩
  · refine heap_set_same (heap_set_same ?_ _) _
    rw [heap_set_other hbe.symm, heap_set_other hbe.symm]
    exact hb
  · rw [hl]
    refine hh.turn (by simp) (fun j h0 h1 => ?_) ?_ ?_
    · rw [Array.getElem?_setIfInBounds_ne (by omega), Array.getElem?_setIfInBounds_ne (by omega)]
    · rw [Array.getElem?_setIfInBounds_ne (by omega), Array.getElem?_setIfInBounds_self_of_lt (by rw [hh.1]; omega)]; rfl
    · rw [Array.getElem?_setIfInBounds_self_of_lt (by simp [hh.1]; omega)]; rfl
  · unfold upd
    split
    · rw [hl]
      exact ⟨((((he.set3 none).set4 none).far (a := ⟨b, _, none⟩) hbe _).far (a := ⟨b, _, none⟩) hbe _), trivial⟩
    · refine (h.lnk j hj).keep fun x hx => ?_
      have h1 := hnb j hj x hx
      have h2 := hf j hj x hx
      rw [heap_set_other h1, heap_set_other h1, heap_set_other h2, heap_set_other h2]

/-- Behind the last one of a list. -/
theorem Mem.add_some (h : Mem w b m now ls) (ha : Apart ls) {i : Nat} (hi : i < 257) {e : Ent} {p n : Option Ent} (he : EntAt w e p n) (hf : ∀ j, j < 257 → ∀ x ∈ ls j, x.g ≠ e.g) {l : List Ent} {z : Ent} (hl : ls i = l ++ [z]) :
    Mem ((((w.setCell ⟨e.g, 3, none⟩ (ptr (some z))).setCell ⟨e.g, 4, none⟩ (ptr none)).setCell ⟨z.g, 4, none⟩ (ptr (some e))).setCell ⟨b, 2 + 2 * i + 1, none⟩ (ptr (some e))) b m now (upd ls i (ls i ++ [e])) := by
  have hbe := h.ne he
  have hnb : ∀ j, j < 257 → ∀ x ∈ ls j, x.g ≠ b := fun j hj x hx => by obtain ⟨q, r, hx'⟩ := h.ent hj hx; exact h.ne hx'
  have hz : z ∈ ls i := by rw [hl]; simp
  have hzb := hnb i hi z hz
  have hze := hf i hi z hz
  obtain ⟨cs, hb, hh⟩ := h.blk
  refine ⟨⟨cs.setIfInBounds (2 + 2 * i + 1) (ptr (some e)), ?_, ?_⟩, fun j hj => ?_⟩
  · refine heap_set_same ?_ _
    rw [heap_set_other hzb.symm, heap_set_other hbe.symm, heap_set_other hbe.symm]
    exact hb
  · refine hh.turn (by simp) (fun j h0 h1 => ?_) ?_ ?_
    · rw [Array.getElem?_setIfInBounds_ne (by omega)]
    · rw [Array.getElem?_setIfInBounds_ne (by omega), (hh.2.2.2 i hi).1, hl]
      simp
    · rw [Array.getElem?_setIfInBounds_self_of_lt (by simp [hh.1]; omega)]; simp
  · unfold upd
    split
    · have hs := h.lnk i hi
      have hp := ha.one i hi
      rw [hl] at hs hp ⊢
      rw [List.append_assoc]
      rw [seg_append] at hs ⊢
      rw [List.pairwise_append] at hp
      refine ⟨?_, ?_, ?_, trivial⟩
      · refine hs.1.keep fun x hx => ?_
        have hx' : x ∈ ls i := by rw [hl]; simp [hx]
        have h1 := hnb i hi x hx'
        have h2 := hf i hi x hx'
        have h3 := hp.2.2 x hx z (by simp)
        rw [heap_set_other h1, heap_set_other h3, heap_set_other h2, heap_set_other h2]
      · exact (((hs.2.1.far (a := ⟨e.g, 3, none⟩) hze _).far (a := ⟨e.g, 4, none⟩) hze _).set4 (some e)).far (a := ⟨b, _, none⟩) hzb _
      · exact (((he.set3 (some z)).set4 none).far (a := ⟨z.g, 4, none⟩) hze.symm _).far (a := ⟨b, _, none⟩) hbe _
    · rename_i hne
      refine (h.lnk j hj).keep fun x hx => ?_
      have h1 := hnb j hj x hx
      have h2 := hf j hj x hx
      have h3 := ha.two j hj i hi hne x hx z hz
      rw [heap_set_other h1, heap_set_other h3, heap_set_other h2, heap_set_other h2]
/-- A list without one of its entries: what is said of both ends of the gap. -/
theorem seg_gap {w w' : World} {l1 l2 : List Ent} {e : Ent} (hs : Seg w none (l1 ++ e :: l2) none) (hp : (l1 ++ e :: l2).Pairwise (fun a b => a.g ≠ b.g))
    (hk : ∀ x ∈ l1 ++ l2, l1.getLast? ≠ some x → l2.head? ≠ some x → w'.heap[x.g]? = w.heap[x.g]?)
    (h1 : ∀ p, l1.getLast? = some p → ∀ q, EntAt w p q (some e) → EntAt w' p q l2.head?)
    (h2 : ∀ n, l2.head? = some n → ∀ q, EntAt w n (some e) q → EntAt w' n l1.getLast? q) : Seg w' none (l1 ++ l2) none := by
  rw [seg_append] at hs ⊢
  rw [List.pairwise_append, List.pairwise_cons] at hp
  obtain ⟨hs1, hs2, hs3⟩ := hs
  refine ⟨?_, ?_⟩
  · rcases List.eq_nil_or_concat l1 with rfl | ⟨l, p, rfl⟩
    · trivial
    · rw [List.concat_eq_append] at *
      rw [seg_append] at hs1 ⊢
      refine ⟨hs1.1.keep fun x hx => hk x (by simp [hx]) ?_ ?_, ?_, trivial⟩
      · intro hc
        have : p = x := by simpa using hc
        have := (List.pairwise_append.1 hp.1).2.2 x hx p (by simp)
        simp_all
      · intro hc
        have := List.mem_of_mem_head? hc
        exact hp.2.2 x (by simp [hx]) x (by simp [this]) rfl
      · have := h1 p (by simp) _ (by simpa using hs1.2.1)
        simpa using this
  · cases l2 with
    | nil => trivial
    | cons n l =>
      refine ⟨?_, hs3.2.keep fun x hx => hk x (by simp [hx]) ?_ ?_⟩
      · have := h2 n rfl _ hs3.1
        simpa using this
      · intro hc
        have := List.mem_of_getLast? hc
        exact hp.2.2 x this x (by simp [hx]) rfl
      · intro hc
        have : n = x := by simpa using hc
        have := (List.pairwise_cons.1 hp.2.1.2).1 x hx
        simp_all

/-- An entry taken out of its list. -/
theorem Mem.gap {w' : World} (h : Mem w b m now ls) (ha : Apart ls) {i : Nat} (hi : i < 257) {l1 l2 : List Ent} {e : Ent} (hl : ls i = l1 ++ e :: l2)
    (hb : ∀ cs, w.heap[b]? = some (.cells cs 64 (0, 0)) → Heads cs now m ls → ∃ cs', w'.heap[b]? = some (.cells cs' 64 (0, 0)) ∧ Heads cs' now m (upd ls i (l1 ++ l2)))
    (hk : ∀ x : Ent, x.g ≠ b → (∀ p, l1.getLast? = some p → x.g ≠ p.g) → (∀ n, l2.head? = some n → x.g ≠ n.g) → w'.heap[x.g]? = w.heap[x.g]?)
    (h1 : ∀ p, l1.getLast? = some p → ∀ q, EntAt w p q (some e) → EntAt w' p q l2.head?)
    (h2 : ∀ n, l2.head? = some n → ∀ q, EntAt w n (some e) q → EntAt w' n l1.getLast? q) : Mem w' b m now (upd ls i (l1 ++ l2)) := by
  have hnb : ∀ j, j < 257 → ∀ x ∈ ls j, x.g ≠ b := fun j hj x hx => by obtain ⟨q, r, hx'⟩ := h.ent hj hx; exact h.ne hx'
  obtain ⟨cs, hcs, hh⟩ := h.blk
  refine ⟨hb cs hcs hh, fun j hj => ?_⟩
  unfold upd
  split
  · have hs := h.lnk i hi
    have hp := ha.one i hi
    have hmem : ∀ x ∈ l1 ++ l2, x ∈ ls i := fun x hx => by
      rw [hl]
      rcases List.mem_append.1 hx with hx | hx <;> simp [hx]
    rw [hl] at hs hp
    refine seg_gap hs hp (fun x hx n1 n2 => hk x (hnb i hi x (hmem x hx)) (fun p hp' hg => n1 ?_) (fun n hn' hg => n2 ?_)) h1 h2
    · have : p ∈ ls i := by rw [hl]; exact List.mem_append_left _ (List.mem_of_getLast? hp')
      rw [pair_eq (ha.one i hi) (hmem x hx) this hg]; exact hp'
    · have : n ∈ ls i := by rw [hl]; exact List.mem_append_right _ (List.mem_cons_of_mem _ (List.mem_of_mem_head? hn'))
      rw [pair_eq (ha.one i hi) (hmem x hx) this hg]; exact hn'
  · rename_i hne
    refine (h.lnk j hj).keep fun x hx => hk x (hnb j hj x hx) (fun p hp' => ?_) (fun n hn' => ?_)
    · exact ha.two j hj i hi hne x hx p (by rw [hl]; exact List.mem_append_left _ (List.mem_of_getLast? hp'))
    · exact ha.two j hj i hi hne x hx n (by rw [hl]; exact List.mem_append_right _ (List.mem_cons_of_mem _ (List.mem_of_mem_head? hn')))
end

end Go.Proofs.Ytgpebbopggmgbaa
