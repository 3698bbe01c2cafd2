/- Contracts of package wheel's lists, over a wheel's memory: add, remove, soonest. -/
import Derived.Test.YtgpebbopggmgbaaWhMem
import Derived.Deep.LoopGhost
namespace Go.Proofs.Ytgpebbopggmgbaa
set_option linter.unusedVariables false
open Go.ChangeShapes Go.WideShapes Go.ChangeAt Go.RowKit

section
variable {w : World} {b m : Nat} {now : Int} {ls : Nat → List Ent}

theorem Mem.cells (h : Mem w b m now ls) : ∃ cs, w.heap[b]? = some (.cells cs 64 (0, 0)) ∧ Heads cs now m ls ∧ w.cell? ⟨b, 0, none⟩ = some (.int .u64 now) ∧ w.cell? ⟨b, 1, none⟩ = some (.map (some m)) ∧
    (∀ i, i < 257 → w.cell? ⟨b, 2 + 2 * i, none⟩ = some (ptr (ls i).head?) ∧ w.cell? ⟨b, 2 + 2 * i + 1, none⟩ = some (ptr (ls i).getLast?)) ∧ ∀ o, w.frozen? ⟨b, o, none⟩ = false := by
  obtain ⟨cs, hb, hh⟩ := h.blk
  refine ⟨cs, hb, hh, ?_, ?_, fun i hi => ?_, fun o => frozen_of hb o⟩
  · rw [cell_of hb]; exact hh.2.1
  · rw [cell_of hb]; exact hh.2.2.1
  · rw [cell_of hb, cell_of hb]; exact hh.2.2.2 i hi
theorem EntAt.cells {e : Ent} {p n : Option Ent} (h : EntAt w e p n) : w.cell? ⟨e.g, 0, none⟩ = some (.int .i64 e.k) ∧ w.cell? ⟨e.g, 1, none⟩ = some (.int .i64 e.i) ∧ w.cell? ⟨e.g, 2, none⟩ = some (.int .u64 e.d) ∧
    w.cell? ⟨e.g, 3, none⟩ = some (ptr p) ∧ w.cell? ⟨e.g, 4, none⟩ = some (ptr n) ∧ ∀ o, w.frozen? ⟨e.g, o, none⟩ = false := by
  unfold EntAt at h
  refine ⟨?_, ?_, ?_, ?_, ?_, fun o => frozen_of h o⟩ <;> rw [cell_of h] <;> rfl

theorem add_mem (h : Mem w b m now ls) (ha : Apart ls) {i : Nat} (hi : i < 257) {e : Ent} {p n : Option Ent} (he : EntAt w e p n) (hf : ∀ j, j < 257 → ∀ x ∈ ls j, x.g ≠ e.g) :
    Calls Try.prog 33 #[.pointer (some ⟨b, 2 + 2 * i, none⟩), .pointer (some ⟨e.g, 0, none⟩)] w fun r w' => r = .returned (.tuple #[]) ∧ Mem w' b m now (upd ls i (ls i ++ [e])) ∧
      Frm (fun j => j = b ∨ j = e.g ∨ ∃ x ∈ ls i, x.g = j) w w' := by
  have hbe := (h.ne he).symm
  obtain ⟨cs, _, _, _, _, hc, hz⟩ := h.cells
  obtain ⟨_, _, _, e3, e4, ez⟩ := he.cells
  have hc' := hc i hi
  rcases List.eq_nil_or_concat (ls i) with hl | ⟨l, z, hl⟩
  · rw [hl] at hc'
    refine (add_none b (2 + 2 * i) e.g w _ _ _ hbe hc'.2 hc'.1 (hz _) (hz _) e3 e4 (ez _) (ez _)).mono ?_
    rintro r w' ⟨rfl, rfl⟩
    refine ⟨rfl, h.add_none hi he hf hl, ?_⟩
    exact ((((Frm.refl _ _).set (.inr (.inl rfl)) _).set (.inr (.inl rfl)) _).set (.inl rfl) _).set (.inl rfl) _
  · rw [List.concat_eq_append] at hl
    have hzm : z ∈ ls i := by rw [hl]; simp
    obtain ⟨q, r, hze⟩ := h.ent hi hzm
    obtain ⟨_, _, _, _, z4, zz⟩ := hze.cells
    have hcl : w.cell? ⟨b, 2 + 2 * i + 1, none⟩ = some (.pointer (some ⟨z.g, 0, none⟩)) := by rw [hc'.2, hl]; simp [ptr]
    refine (Proofs.Ytgpebbopggmgbaa.add_some b (2 + 2 * i) e.g z.g w _ _ _ _ hbe (h.ne hze).symm (hf i hi z hzm).symm hcl hc'.1 (hz _) (hz _) e3 e4 (ez _) (ez _) z4 (zz _)).mono ?_
    rintro r w' ⟨rfl, rfl⟩
    refine ⟨rfl, h.add_some ha hi he hf hl, ?_⟩
    exact ((((Frm.refl _ _).set (.inr (.inl rfl)) _).set (.inr (.inl rfl)) _).set (.inr (.inr ⟨z, hzm, rfl⟩)) _).set (.inl rfl) _

theorem heads_first {cs : Array Value} (hh : Heads cs now m ls) {i : Nat} (hi : i < 257) {l : List Ent} (hl : (ls i).getLast? = l.getLast?) : Heads (cs.setIfInBounds (2 + 2 * i) (ptr l.head?)) now m (upd ls i l) := by
  refine hh.turn (by simp) (fun j h0 h1 => ?_) ?_ ?_
  · rw [Array.getElem?_setIfInBounds_ne (by omega)]
  · rw [Array.getElem?_setIfInBounds_self_of_lt (by simp [hh.1]; omega)]
  · rw [Array.getElem?_setIfInBounds_ne (by omega), (hh.2.2.2 i hi).2, hl]
theorem heads_last {cs : Array Value} (hh : Heads cs now m ls) {i : Nat} (hi : i < 257) {l : List Ent} (hl : (ls i).head? = l.head?) : Heads (cs.setIfInBounds (2 + 2 * i + 1) (ptr l.getLast?)) now m (upd ls i l) := by
  refine hh.turn (by simp) (fun j h0 h1 => ?_) ?_ ?_
  · rw [Array.getElem?_setIfInBounds_ne (by omega)]
  · rw [Array.getElem?_setIfInBounds_ne (by omega), (hh.2.2.2 i hi).1, hl]
  · rw [Array.getElem?_setIfInBounds_self_of_lt (by simp [hh.1]; omega)]
theorem heads_both {cs : Array Value} (hh : Heads cs now m ls) {i : Nat} (hi : i < 257) {l : List Ent} : Heads ((cs.setIfInBounds (2 + 2 * i) (ptr l.head?)).setIfInBounds (2 + 2 * i + 1) (ptr l.getLast?)) now m (upd ls i l) := by
  refine hh.turn (by simp) (fun j h0 h1 => ?_) ?_ ?_
  · rw [Array.getElem?_setIfInBounds_ne (by omega), Array.getElem?_setIfInBounds_ne (by omega)]
  · rw [Array.getElem?_setIfInBounds_ne (by omega), Array.getElem?_setIfInBounds_self_of_lt (by simp [hh.1]; omega)]
  · rw [Array.getElem?_setIfInBounds_self_of_lt (by simp [hh.1]; omega)]
theorem heads_none {cs : Array Value} (hh : Heads cs now m ls) {i : Nat} (hi : i < 257) {l : List Ent} (hl : (ls i).head? = l.head?) (hl' : (ls i).getLast? = l.getLast?) : Heads cs now m (upd ls i l) := by
  refine hh.turn rfl (fun j h0 h1 => rfl) ?_ ?_
  · rw [(hh.2.2.2 i hi).1, hl]
  · rw [(hh.2.2.2 i hi).2, hl']

theorem remove_mem (h : Mem w b m now ls) (ha : Apart ls) {i : Nat} (hi : i < 257) {e : Ent} {l1 l2 : List Ent} (hl : ls i = l1 ++ e :: l2) :
    Calls Try.prog 38 #[.pointer (some ⟨b, 2 + 2 * i, none⟩), .pointer (some ⟨e.g, 0, none⟩)] w fun r w' => r = .returned (.tuple #[]) ∧ Mem w' b m now (upd ls i (l1 ++ l2)) ∧ w'.heap[e.g]? = w.heap[e.g]? ∧
      Frm (fun j => j = b ∨ ∃ x ∈ ls i, x.g = j) w w' := by
  have hs := h.lnk i hi
  have hp := ha.one i hi
  have hmem : ∀ x ∈ l1 ++ e :: l2, x ∈ ls i := fun x hx => by rw [hl]; exact hx
  have hnb : ∀ x ∈ l1 ++ e :: l2, x.g ≠ b := fun x hx => by obtain ⟨q, r, hx'⟩ := h.ent hi (hmem x hx); exact h.ne hx'
  rw [hl] at hs hp
  have hs' := (seg_append.1 hs).2
  have he : EntAt w e l1.getLast? l2.head? := by simpa using hs'.1
  obtain ⟨_, _, _, e3, e4, ez⟩ := he.cells
  have hbe := (hnb e (by simp)).symm
  obtain ⟨cs0, _, _, _, _, hc, hz⟩ := h.cells
  have hc' := hc i hi
  rcases List.eq_nil_or_concat l1 with rfl | ⟨l, p, rfl⟩
  · cases l2 with
    | nil =>
      refine (remove_nn b (2 + 2 * i) e.g w _ _ hbe hc'.2 hc'.1 (hz _) (hz _) e3 e4).mono ?_
      rintro r w' ⟨rfl, hw⟩
      refine ⟨rfl, ?_, ?_, ?_⟩
      · refine h.gap ha hi hl (fun cs hcs hh => ⟨_, ?_, heads_both hh hi⟩) (fun x hx _ _ => ?_) (by simp) (by simp)
        · rw [hw.heap]; exact heap_set_same (heap_set_same hcs _) _
        · rw [hw.heap, heap_set_other hx, heap_set_other hx]
      · rw [hw.heap, heap_set_other hbe.symm, heap_set_other hbe.symm]
      · exact (((Frm.refl _ _).set (.inl rfl) _).set (.inl rfl) _).ali hw
    | cons n l2 =>
      have hn : n ∈ [] ++ e :: n :: l2 := by simp
      obtain ⟨q, r, hne⟩ := h.ent hi (hmem n hn)
      obtain ⟨_, _, _, n3, _, nz⟩ := hne.cells
      have hen : e.g ≠ n.g := by simp only [List.nil_append, List.pairwise_cons] at hp; exact hp.1 n (by simp)
      refine (remove_ns b (2 + 2 * i) e.g n.g w _ _ hbe (hnb n hn).symm hen hc'.1 (hz _) e3 e4 n3 (nz _)).mono ?_
      rintro r w' ⟨rfl, hw⟩
      refine ⟨rfl, ?_, ?_, ?_⟩
      · refine h.gap ha hi hl (fun cs hcs hh => ⟨_, ?_, heads_first hh hi (by rw [hl]; simp)⟩) (fun x hx _ hxn => ?_) (by simp) ?_
        · rw [hw.heap, heap_set_other (hnb n hn).symm]; exact heap_set_same hcs _
        · rw [hw.heap, heap_set_other (hxn n rfl), heap_set_other hx]
        · intro n' hn' q hq
          obtain rfl : n = n' := by simpa using hn'
          exact ((hq.far (a := ⟨b, _, none⟩) (hnb n hn) _).set3 none).ali hw
      · rw [hw.heap, heap_set_other hen, heap_set_other hbe.symm]
      · exact (((Frm.refl _ _).set (.inl rfl) _).set (.inr ⟨n, hmem n hn, rfl⟩) _).ali hw
  · rw [List.concat_eq_append] at *
    have hpm : p ∈ l ++ [p] ++ e :: l2 := by simp
    obtain ⟨q, r, hpe⟩ := h.ent hi (hmem p hpm)
    obtain ⟨_, _, _, _, p4, pz⟩ := hpe.cells
    have hep : e.g ≠ p.g := ((List.pairwise_append.1 hp).2.2 p (by simp) e (by simp)).symm
    have e3' : w.cell? ⟨e.g, 3, none⟩ = some (.pointer (some ⟨p.g, 0, none⟩)) := by rw [e3]; simp [ptr]
    cases l2 with
    | nil =>
      refine (remove_sn b (2 + 2 * i) e.g p.g w _ _ hbe (hnb p hpm).symm hep hc'.2 (hz _) e3' e4 p4 (pz _)).mono ?_
      rintro r w' ⟨rfl, hw⟩
      refine ⟨rfl, ?_, ?_, ?_⟩
      · refine h.gap ha hi hl (fun cs hcs hh => ⟨cs.setIfInBounds (2 + 2 * i + 1) (ptr (l ++ [p] ++ []).getLast?), ?_, heads_last hh hi (by rw [hl]; simp [List.head?_append])⟩) (fun x hx hxp _ => ?_) ?_ (by simp)
        · have hx : (w.setCell ⟨p.g, 4, none⟩ (.pointer none)).heap[b]? = _ := (heap_set_other (p := ⟨p.g, 4, none⟩) (hnb p hpm).symm _).trans hcs
          rw [hw.heap, heap_set_same hx]; simp [ptr]
        · rw [hw.heap, heap_set_other hx, heap_set_other (hxp p (by simp))]
        · intro p' hp' q hq
          obtain rfl : p = p' := by simpa using hp'
          exact ((hq.set4 none).far (a := ⟨b, _, none⟩) (hnb p hpm) _).ali hw
      · rw [hw.heap, heap_set_other hbe.symm, heap_set_other hep]
      · exact (((Frm.refl _ _).set (.inr ⟨p, hmem p hpm, rfl⟩) _).set (.inl rfl) _).ali hw
    | cons n l2 =>
      have hn : n ∈ l ++ [p] ++ e :: n :: l2 := by simp
      obtain ⟨q, r, hne⟩ := h.ent hi (hmem n hn)
      obtain ⟨_, _, _, n3, _, nz⟩ := hne.cells
      have hpp := List.pairwise_append.1 hp
      have hen : e.g ≠ n.g := (List.pairwise_cons.1 hpp.2.1).1 n (by simp)
      have hpn : p.g ≠ n.g := hpp.2.2 p (by simp) n (by simp)
      refine (remove_ss b (2 + 2 * i) e.g p.g n.g w _ _ hbe (hnb p hpm).symm hep (hnb n hn).symm hen hpn e3' e4 p4 (pz _) n3 (nz _)).mono ?_
      rintro r w' ⟨rfl, hw⟩
      refine ⟨rfl, ?_, ?_, ?_⟩
      · refine h.gap ha hi hl (fun cs hcs hh => ⟨cs, ?_, heads_none hh hi (by rw [hl]; simp [List.head?_append]) (by rw [hl]; simp [List.getLast?_append, List.getLast?_cons])⟩) (fun x hx hxp hxn => ?_) ?_ ?_
        · rw [hw.heap, heap_set_other (hnb n hn).symm, heap_set_other (hnb p hpm).symm]; exact hcs
        · rw [hw.heap, heap_set_other (hxn n rfl), heap_set_other (hxp p (by simp))]
        · intro p' hp' q hq
          obtain rfl : p = p' := by simpa using hp'
          exact ((hq.set4 (some n)).far (a := ⟨n.g, _, none⟩) hpn _).ali hw
        · intro n' hn' q hq
          obtain rfl : n = n' := by simpa using hn'
          have := ((hq.far (a := ⟨p.g, 4, none⟩) hpn.symm (.pointer (some ⟨n.g, 0, none⟩))).set3 (some p)).ali hw
          simpa using this
      · rw [hw.heap, heap_set_other hen, heap_set_other hep]
      · exact (((Frm.refl _ _).set (.inr ⟨p, hmem p hpm, rfl⟩) _).set (.inr ⟨n, hmem n hn, rfl⟩) _).ali hw
end

end Go.Proofs.Ytgpebbopggmgbaa
