/- Contract of drop. -/
import Derived.Test.YtgpebbopggmgbaaWhFirst
import Derived.Deep.RegionLaw
namespace Go.Proofs.Ytgpebbopggmgbaa
set_option linter.unusedVariables false
open Go.ChangeShapes Go.WideShapes Go.ChangeAt Go.RowKit

theorem step_delete {w : World} {ops : Array Oper} {o : Oper} {a : Act} {K : Act → World → Prop} {Q : Exit → Act → World → Prop} {E : Prop} (hgd : o.guard = none) (mo xo : Operand)
    (ho : o.op = .call { callee := .builtin .delete, args := #[mo, xo], argTypes := #[57, 25] })
    {m : Nat} {L : List Ent} (hmap : MapL w m L) {e : Ent} (he : e ∈ L) (hap : L.Pairwise (fun a b => a.g ≠ b.g)) (hkeys : L.Pairwise (fun a b => ¬ (a.k = b.k ∧ a.i = b.i))) (hwf : ∀ x ∈ L, wf64 x.k ∧ wf64 x.i)
    (hm : a.eval mo = .map (some m)) (hx : a.eval xo = .agg #[.int .i64 e.k, .int .i64 e.i])
    (h : ∀ w', MapL w' m (del e.g L) → w.mapTurned w' m → K (a.put o.dst (.tuple #[])) w') :
    if Region.wanted o (yielded ops a.tmps) = true then Oper.wp Try.prog o a w K Q else E := by
  have hw : Region.wanted o (yielded ops a.tmps) = true := by simp [Region.wanted, hgd]
  rw [if_pos hw]
  obtain ⟨w', hr, hm', ht⟩ := hmap.drop he hap hkeys hwf o.type
  unfold tv at hr
  unfold Oper.wp
  simp [execOp, ho, resolve, invoke, builtin, hm, hx, hr, Result.andThen]
  exact h w' hm' ht

theorem grown_drew {w w' : World} {r : Option Nat} (h : w.drew.grownBy w' r) : w.grownBy w' r := ⟨h.os, h.tape, h.output, h.size, h.block⟩
theorem Mem.congr {w : World} {b m : Nat} {now : Int} {ls ls' : Nat → List Ent} (h : Mem w b m now ls) (he : ∀ i, i < 257 → ls' i = ls i) : Mem w b m now ls' := by
  obtain ⟨cs, hb, h1, h2, h3, h4⟩ := h.blk
  exact ⟨⟨cs, hb, h1, h2, h3, fun i hi => by rw [he i hi]; exact h4 i hi⟩, fun i hi => by rw [he i hi]; exact h.lnk i hi⟩
theorem mem_not_map {w : World} {b m : Nat} {now : Int} {ls : Nat → List Ent} (h : Mem w b m now ls) {L : List Ent} (hm : MapL w m L) : m ≠ b ∧ ∀ i, i < 257 → ∀ x ∈ ls i, x.g ≠ m := by
  obtain ⟨es, c, hobj⟩ := hm.obj
  constructor
  · rintro rfl
    obtain ⟨cs, hb, _⟩ := h.blk
    rw [hobj] at hb
    cases hb
  · rintro i hi x hx rfl
    obtain ⟨q', n', hx'⟩ := h.ent hi hx
    unfold EntAt at hx'
    rw [hobj] at hx'
    cases hx'

theorem drop_end {b m : Nat} {now : Int} {L l1 l2 : List Ent} {w w1 w2 w3 : World} {e : Ent} {ls : Nat → List Ent} (h : Whl w b m now L) (he : e ∈ L) (hm : Mem w b m now ls) (hi : Inv now L ls) (hl : ls (ix now e.d) = l1 ++ e :: l2)
    (ha : Ali w w1) (hm2 : Mem w2 b m now (upd ls (ix now e.d) (l1 ++ l2))) (he2 : w2.heap[e.g]? = w1.heap[e.g]?) (hf : Frm (fun j => j = b ∨ ∃ x, x ∈ ls (ix now e.d) ∧ x.g = j) w1 w2)
    (hmap : MapL w3 m (del e.g L)) (hg : w2.grownBy w3 (some m)) : Whl w3 b m now (del e.g L) ∧ w3.heap[e.g]? = w.heap[e.g]? ∧ Frm (Foot b m L) w w3 := by
  have hixl := ix_lt now e.d
  have hnm := mem_not_map hm h.map
  have heq : ∀ i, i < 257 → (fun i => del e.g (ls i)) i = upd ls (ix now e.d) (l1 ++ l2) i := by
    intro i hi'
    unfold upd
    split
    · rename_i hc
      subst hc
      have hp := hi.ls_apart hixl
      show del e.g (ls (ix now e.d)) = _
      rw [hl] at hp ⊢
      exact del_split hp
    · rename_i hc
      exact hi.del_other he hi' hc
  have hmem : ∀ i, i < 257 → ∀ x ∈ upd ls (ix now e.d) (l1 ++ l2) i, x ∈ ls i := by
    intro i hi' x hx
    rw [← heq i hi'] at hx
    exact (List.mem_filter.1 hx).1
  have hm3 : Mem w3 b m now (upd ls (ix now e.d) (l1 ++ l2)) := hm2.keep (hg.block b (by obtain ⟨cs, hb, _⟩ := hm2.blk; exact heap_lt hb) (fun hc => hnm.1 (by injection hc with hc; exact hc.symm)))
    (fun i hi' x hx => by
      obtain ⟨q, n, hx'⟩ := hm2.ent hi' hx
      exact hg.block x.g hx'.lt (fun hc => hnm.2 i hi' x (hmem i hi' x hx) (by injection hc)))
  refine ⟨⟨⟨_, hm3.congr heq, hi.del e.g⟩, hmap⟩, ?_, ?_⟩
  · obtain ⟨q, n, hent⟩ := h.ent he
    have hlt : e.g < w2.heap.size := Nat.lt_of_lt_of_le (by rw [ha.heap]; exact hent.lt) hf.size
    have hem := (hi.mem hixl).2 ⟨he, rfl⟩
    rw [hg.block e.g hlt (fun hc => hnm.2 _ hixl e hem (by injection hc)), he2, ha.heap]
  · have f1 : Frm (Foot b m L) w w1 := (Frm.refl _ _).ali ha
    have f2 := f1.trans hf (fun j _ hj => by
      rcases hj with rfl | ⟨x, hx, rfl⟩
      · exact .inl rfl
      · exact .inr (.inr ⟨x, ((hi.mem hixl).1 hx).1, rfl⟩))
    exact f2.trans (Frm.of_grown (F := Foot b m L) hg (.inr (.inl rfl))) (fun _ _ hj => hj)

set_option maxHeartbeats 1000000 in
theorem drop_any (b m : Nat) (now : Int) (L : List Ent) (w : World) (h : Whl w b m now L) (e : Ent) (he : e ∈ L) :
    Calls Try.prog 31 #[.pointer (some ⟨b, 0, none⟩), .pointer (some ⟨e.g, 0, none⟩)] w fun r w' => r = .returned (.tuple #[]) ∧ Whl w' b m now (del e.g L) ∧ w'.heap[e.g]? = w.heap[e.g]? ∧ Frm (Foot b m L) w w' := by
  obtain ⟨ls, hm, hi⟩ := h.ex
  obtain ⟨q, n, hent⟩ := h.ent he
  obtain ⟨_, _, c2, _⟩ := hent.cells
  have hd := h.due e he
  have hnow := h.now0
  have hpl := place_any b now e.d
  have hc0 := h.cell0
  go_enter Try.func31, Try.ntmps31
  go_wp2_with fail
  refine (hpl w hc0 hnow.1 hnow.2 (by omega) (by omega)).mono ?_
  clear hpl
  rintro r w1 ⟨rfl, ha⟩
  have hm1 := hm.ali ha
  obtain ⟨l1, l2, hl⟩ := List.append_of_mem ((hi.mem (ix_lt now e.d)).2 ⟨he, rfl⟩)
  have hrm := remove_mem hm1 hi.apart_ls (ix_lt now e.d) hl
  go_wp2_with fail
  refine hrm.mono ?_
  clear hrm
  rintro r w2 ⟨rfl, hm2, he2, hf2⟩
  have hmap2 : MapL w2 m L := h.map.keep (by
    rw [hf2.block m (by rw [ha.heap]; exact h.map.lt) ?_, ha.heap]
    obtain ⟨es, c, hobj⟩ := h.map.obj
    rintro (rfl | ⟨x, hx, rfl⟩)
    · obtain ⟨cs, hb, _⟩ := hm.blk
      rw [hobj] at hb
      cases hb
    · obtain ⟨q', n', hx'⟩ := hm.ent (ix_lt _ _) hx
      unfold EntAt at hx'
      rw [hobj] at hx'
      cases hx')
  have hent2 : EntAt w2 e q n := hent.keep (by rw [he2, ha.heap])
  obtain ⟨d0, d1, _⟩ := hent2.cells
  obtain ⟨cs, _, _, _, b1, _⟩ := hm2.cells
  have hap := Lib.hid hi.apart
  have hkeys := Lib.hid hi.keys
  have hwf := Lib.hid h.wf
  have HI := Lib.hid hi
  have H2 := Lib.hid (And.intro hm2 (And.intro he2 hf2))
  have HA := Lib.hid ha
  have HL := Lib.hid hl
  have HE := Lib.hid he
  have HM := Lib.hid hm
  have HW := Lib.hid h
  clear hm hi hent c2 hd hnow hc0 hm1 hl hm2 he2 hf2 hent2 ha h he
  go_wp2
  go_region_law (first | (refine step_delete rfl _ _ rfl (hmap2.keep rfl) HE.out hap.out hkeys.out hwf.out rfl rfl ?_; intro w3 hmap3 ht3))
  all_goals go_wp2
  all_goals go_end0
  all_goals exact ⟨rfl, drop_end HW.out HE.out HM.out HI.out HL.out HA.out H2.out.1 H2.out.2.1 H2.out.2.2 hmap3 (grown_drew (World.mapTurned.grown ht3))⟩

end Go.Proofs.Ytgpebbopggmgbaa
