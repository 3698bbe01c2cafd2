/- Contract of turn. -/
import Derived.Test.YtgpebbopggmgbaaWhDrop
namespace Go.Proofs.Ytgpebbopggmgbaa
set_option linter.unusedVariables false
open Go.ChangeShapes Go.WideShapes Go.ChangeAt Go.RowKit

theorem Mem.setNow {w : World} {b m : Nat} {now : Int} {ls : Nat → List Ent} (h : Mem w b m now ls) (to : Int) : Mem (w.setCell ⟨b, 0, none⟩ (.int .u64 to)) b m to ls := by
  have hnb : ∀ j, j < 257 → ∀ x ∈ ls j, x.g ≠ b := fun j hj x hx => by obtain ⟨q, r, hx'⟩ := h.ent hj hx; exact h.ne hx'
  obtain ⟨cs, hb, h1, h2, h3, h4⟩ := h.blk
  refine ⟨⟨cs.setIfInBounds 0 (.int .u64 to), heap_set_same hb _, by simp [h1], ?_, ?_, fun i hi => ?_⟩, fun i hi => (h.lnk i hi).keep fun x hx => heap_set_other (hnb i hi x hx) _⟩
  · rw [Array.getElem?_setIfInBounds_self_of_lt (by omega)]
  · rw [Array.getElem?_setIfInBounds_ne (by omega)]; exact h3
  · rw [Array.getElem?_setIfInBounds_ne (by omega), Array.getElem?_setIfInBounds_ne (by omega)]; exact h4 i hi
theorem Mem.empty {w : World} {b m : Nat} {now : Int} {ls : Nat → List Ent} (h : Mem w b m now ls) {j : Nat} (hj : j < 257) :
    Mem ((w.setCell ⟨b, 2 + 2 * j, none⟩ (.pointer none)).setCell ⟨b, 2 + 2 * j + 1, none⟩ (.pointer none)) b m now (upd ls j []) := by
  have hnb : ∀ j, j < 257 → ∀ x ∈ ls j, x.g ≠ b := fun j hj x hx => by obtain ⟨q, r, hx'⟩ := h.ent hj hx; exact h.ne hx'
  obtain ⟨cs, hb, hh⟩ := h.blk
  refine ⟨⟨_, heap_set_same (heap_set_same hb _) _, heads_both hh hj (l := [])⟩, fun i hi => ?_⟩
  unfold upd
  split
  · trivial
  · exact (h.lnk i hi).keep fun x hx => by rw [heap_set_other (hnb i hi x hx), heap_set_other (hnb i hi x hx)]

section
variable {now to : Int} {L l1 l2 : List Ent} {ls : Nat → List Ent} {j : Nat}
theorem turned_mem {i : Nat} {x : Ent} (hx : x ∈ turned ls to j l1 i) : (i ≠ j ∧ x ∈ ls i) ∨ (x ∈ l1 ∧ ix to x.d = i) := by
  unfold turned at hx
  rcases List.mem_append.1 hx with hx | hx
  · split at hx
    · cases hx
    · rename_i h; exact .inl ⟨h, hx⟩
  · have := List.mem_filter.1 hx
    exact .inr ⟨this.1, by simpa using this.2⟩
theorem turned_nil (i : Nat) : turned ls to j [] i = upd ls j [] i := by
  unfold turned upd
  split <;> simp
theorem turned_snoc (x : Ent) (i : Nat) : turned ls to j (l1 ++ [x]) i = upd (turned ls to j l1) (ix to x.d) (turned ls to j l1 (ix to x.d) ++ [x]) i := by
  unfold upd
  split
  · rename_i h
    subst h
    unfold turned
    rw [List.filter_append]
    simp
  · rename_i h
    unfold turned
    rw [List.filter_append, List.filter_cons, if_neg (fun hc => h (eq_of_beq hc).symm)]
    simp
theorem turned_apart (hi : Inv now L ls) (hj : j < 257) (hl : ls j = l1 ++ l2) : Apart (turned ls to j l1) := by
  have ha := hi.apart_ls
  have hp := ha.one j hj
  rw [hl] at hp
  have hp1 := (List.pairwise_append.1 hp).1
  have hm1 : ∀ x ∈ l1, x ∈ ls j := fun x hx => by rw [hl]; exact List.mem_append_left _ hx
  refine ⟨fun i hi' => ?_, fun i hi' i' hi2 hne x hx y hy => ?_⟩
  · unfold turned
    rw [List.pairwise_append]
    refine ⟨?_, hp1.filter _, fun x hx y hy => ?_⟩
    · split
      · exact .nil
      · exact ha.one i hi'
    · split at hx
      · cases hx
      · rename_i hne
        exact ha.two i hi' j hj hne x hx y (hm1 y (List.mem_filter.1 hy).1)
  · rcases turned_mem hx with ⟨h1, h2⟩ | ⟨h1, h2⟩ <;> rcases turned_mem hy with ⟨h3, h4⟩ | ⟨h3, h4⟩
    · exact ha.two i hi' i' hi2 hne x h2 y h4
    · exact ha.two i hi' j hj h1 x h2 y (hm1 y h3)
    · exact fun e => ha.two i' hi2 j hj h3 y h4 x (hm1 x h1) e.symm
    · intro e
      have := pair_eq hp1 h1 h3 e
      subst this
      exact hne (h2.symm.trans h4)
theorem turned_fresh (hi : Inv now L ls) (hj : j < 257) (hl : ls j = l1 ++ l2) {x : Ent} (hx : x ∈ l2) : ∀ i, i < 257 → ∀ y ∈ turned ls to j l1 i, y.g ≠ x.g := by
  have ha := hi.apart_ls
  have hp := ha.one j hj
  have hxj : x ∈ ls j := by rw [hl]; exact List.mem_append_right _ hx
  rw [hl] at hp
  intro i hi' y hy
  rcases turned_mem hy with ⟨h1, h2⟩ | ⟨h1, h2⟩
  · exact ha.two i hi' j hj h1 y h2 x hxj
  · exact (List.pairwise_append.1 hp).2.2 y h1 x hx
end

set_option maxHeartbeats 1000000 in
theorem turn_any (b m : Nat) (now to : Int) (L : List Ent) (w : World) (h : Whl w b m now L) (ht : now ≤ to) (ht' : to ≤ 18446744073709551615) (hall : ∀ e ∈ L, to ≤ e.d) :
    Calls Try.prog 30 #[.pointer (some ⟨b, 0, none⟩), .int .u64 to] w fun r w' => r = .returned (.tuple #[]) ∧ Whl w' b m to L ∧ Frm (Foot b m L) w w' := by
  obtain ⟨ls, hm, hi⟩ := h.ex
  obtain ⟨cs, hb, hh, c0, c1, hc, hz⟩ := hm.cells
  have hnow := h.now0
  have hf0 := hz 0
  have hnm := mem_not_map hm h.map
  have hlev := levS_bd now to
  have hm1 := hm.setNow to
  have hfr1 : Frm (Foot b m L) w (w.setCell ⟨b, 0, none⟩ (.int .u64 to)) := (Frm.refl _ _).set (.inl rfl) _
  have hmap1 : (w.setCell ⟨b, 0, none⟩ (.int .u64 to)).heap[m]? = w.heap[m]? := heap_set_other hnm.1 _
  by_cases h0 : levS now to = 0
  · have h0' : (levS now to == 0) = true := by simp [h0]
    have hres : Whl (w.setCell ⟨b, 0, none⟩ (.int .u64 to)) b m to L := ⟨⟨ls, hm1, hi.turn0 ht ht' hall h0⟩, h.map.keep hmap1⟩
    clear hall hc hz hm hi hm1 hmap1 h0 hnm
    have R := Lib.hid hres
    have R' := Lib.hid hfr1
    clear hres hfr1
    go_enter Try.func30, Try.ntmps30
    go_wp2_with fail
    refine (level_any _ _ _ hnow.1 hnow.2 (by omega) ht').mono ?_
    rintro e w' ⟨rfl, rfl⟩
    go_wp2
    refine bodyPost_ret (results_none rfl _ _ _) rfl ?_
    exact ⟨rfl, R.out, R'.out⟩
  · have h0' : (levS now to == 0) = false := by simp [h0]
    obtain ⟨j, hj⟩ : ∃ j, j = ixl (levS now to) to := ⟨_, rfl⟩
    have hj257 : j < 257 := by rw [hj]; exact ixl_lt hlev.1 _
    have hlist := list_any b (levS now to) to
    rw [← hj] at hlist
    have HJ := Lib.hid hj
    have HALL := Lib.hid hall
    have HM := Lib.hid hm
    have HI := Lib.hid hi
    have HM1 := Lib.hid hm1
    have HF1 := Lib.hid hfr1
    have HMAP := Lib.hid hmap1
    clear hj hall hc hz hm hi hm1 hfr1 hmap1 hh hb c1 h0
    go_enter Try.func30, Try.ntmps30
    go_wp2_with fail
    refine (level_any _ _ _ hnow.1 hnow.2 (by omega) ht').mono ?_
    rintro e w' ⟨rfl, rfl⟩
    go_wp2_with fail
    refine (hlist _ hlev.1 (by omega) ht').mono ?_
    clear hlist
    rintro e w2 ⟨rfl, ha2⟩
    obtain ⟨cs, _, _, _, _, hc, hz⟩ := (HM1.out.ali ha2).cells
    have hcj := hc j hj257
    have hz1 := hz (2 + 2 * j)
    have hz2 := hz (2 + 2 * j + 1)
    obtain ⟨hc1, hc2⟩ := hcj
    have hu : ∃ u, ptr (ls j).head? = .pointer u := ⟨_, rfl⟩
    obtain ⟨u, hu⟩ := hu
    rw [hu] at hc1
    have HU := Lib.hid hu
    have HA2 := Lib.hid ha2
    clear hu hc hz ha2
    go_wp2
    clear c0 hf0 h0' hz1 hz2 hc1 hc2
    go_loopg [6] (ls j).length (fun k v wr => ∃ l1 l2 : List Ent, l2.length = k ∧ ls j = l1 ++ l2 ∧ v = ptr l2.head? ∧ Mem wr b m to (turned ls to j l1) ∧ (∀ x ∈ l2, wr.heap[x.g]? = w.heap[x.g]?) ∧ wr.heap[m]? = w.heap[m]? ∧ Frm (Foot b m L) w wr)
    case atStart =>
      have hm3 := (HM1.out.ali HA2.out).empty hj257
      have hf2 := HF1.out.ali HA2.out
      have hnb : ∀ x ∈ ls j, x.g ≠ b := fun x hx => by obtain ⟨q, r, hx'⟩ := HM.out.ent hj257 hx; exact HM.out.ne hx'
      refine ⟨[], ls j, rfl, rfl, HU.out.symm, hm3.congr (fun i _ => turned_nil i), fun x hx => ?_, ?_, (hf2.set (.inl rfl) _).set (.inl rfl) _⟩
      · have := hnb x hx
        rw [heap_set_other this, heap_set_other this, HA2.out.heap, heap_set_other this]
      · rw [heap_set_other hnm.1, heap_set_other hnm.1, HA2.out.heap]
        exact HMAP.out
    case round =>
      obtain ⟨l1, l2, hk, hl, rfl, hmr, hx, hmm, hfr⟩ := hrel
      have K := Lib.hid hk
      have R1 := Lib.hid hl
      have R2 := Lib.hid hmr
      have R3 := Lib.hid hx
      have R4 := Lib.hid hmm
      have R5 := Lib.hid hfr
      clear hk hl hmr hx hmm hfr
      cases l2 with
      | nil =>
        rw [show ptr ([] : List Ent).head? = .pointer none from rfl]
        go_wp2
        go_end0
        have hl := R1.out
        rw [List.append_nil] at hl
        refine ⟨rfl, ⟨⟨_, R2.out, ?_⟩, h.map.keep R4.out⟩, R5.out⟩
        rw [← hl]
        exact HI.out.turn1 ht ht' HALL.out HJ.out
      | cons x l2 =>
        rw [show ptr (x :: l2).head? = .pointer (some ⟨x.g, 0, none⟩) from rfl]
        have hxj : x ∈ ls j := by rw [R1.out]; simp
        have hxL := ((HI.out.mem hj257).1 hxj).1
        have hxd := HALL.out x hxL
        have hxd' := (h.due x hxL).2
        have hent : EntAt wr x l1.getLast? l2.head? := by
          have hs := HM.out.lnk j hj257
          rw [R1.out] at hs
          have := (seg_append.1 hs).2.1
          exact EntAt.keep (by simpa using this) (R3.out x (by simp))
        obtain ⟨_, _, e2, _, e4, _⟩ := hent.cells
        obtain ⟨u, hu⟩ : ∃ u, ptr l2.head? = .pointer u := ⟨_, rfl⟩
        rw [hu] at e4
        obtain ⟨_, _, _, c0, _⟩ := R2.out.cells
        have hpl := place_any b to x.d wr c0 (by omega) ht' (by omega) hxd'
        have hadd : ∀ w4, Ali wr w4 → _ := fun w4 ha => add_mem (R2.out.ali ha) (turned_apart (to := to) HI.out hj257 R1.out) (ix_lt to x.d) (hent.ali ha) (turned_fresh (to := to) HI.out hj257 R1.out (by simp))
        have HX := Lib.hid hent
        have UU := Lib.hid hu
        have HXJ := Lib.hid hxj
        clear hent hu hxj hxd c0
        go_wp2_with fail
        refine hpl.mono ?_
        clear hpl
        rintro e w4 ⟨rfl, ha4⟩
        have hadd4 := hadd w4 ha4
        clear hadd
        have HA4 := Lib.hid ha4
        clear ha4
        go_wp2_with fail
        refine hadd4.mono ?_
        clear hadd4
        rintro e w5 ⟨rfl, hm5, hf5⟩
        have HM5 := Lib.hid hm5
        have HF5 := Lib.hid hf5
        clear hm5 hf5
        go_wp2
        go_roundg l2.length
        case measure => have := K.out; simp at this; omega
        case rel =>
          have hix := ix_lt to x.d
          have hin : ∀ i, i < 257 → ∀ y ∈ turned ls to j l1 i, ∃ i', i' < 257 ∧ y ∈ ls i' := fun i hi y hy => by
            rcases turned_mem hy with ⟨_, h2⟩ | ⟨h1, _⟩
            · exact ⟨i, hi, h2⟩
            · exact ⟨j, hj257, by rw [R1.out]; exact List.mem_append_left _ h1⟩
          have hmlt : m < w4.heap.size := by rw [HA4.out.heap]; exact Nat.lt_of_lt_of_le h.map.lt R5.out.size
          refine ⟨l1 ++ [x], l2, rfl, by rw [R1.out]; simp, UU.out.symm, HM5.out.congr (fun i _ => turned_snoc x i), fun y hy => ?_, ?_, ?_⟩
          · have hyj : y ∈ ls j := by rw [R1.out]; simp [hy]
            obtain ⟨q, n, hy'⟩ := HM.out.ent hj257 hyj
            have hlt : y.g < w4.heap.size := by rw [HA4.out.heap]; exact Nat.lt_of_lt_of_le hy'.lt R5.out.size
            rw [HF5.out.block y.g hlt ?_, HA4.out.heap]
            · exact R3.out y (by simp [hy])
            · rintro (hc | hc | ⟨z, hz, hc⟩)
              · exact HM.out.ne hy' hc
              · have hp := HI.out.ls_apart hj257
                rw [R1.out, List.pairwise_append, List.pairwise_cons] at hp
                exact hp.2.1.1 y hy hc.symm
              · exact turned_fresh (to := to) HI.out hj257 R1.out (x := y) (by simp [hy]) _ hix z hz hc
          · rw [HF5.out.block m hmlt ?_, HA4.out.heap]
            · exact R4.out
            · rintro (hc | hc | ⟨z, hz, hc⟩)
              · exact hnm.1 hc
              · exact hnm.2 j hj257 x HXJ.out hc.symm
              · obtain ⟨i', hi', hz'⟩ := hin _ hix z hz
                exact hnm.2 i' hi' z hz' hc
          · refine (R5.out.ali HA4.out).trans HF5.out (fun i _ hc => ?_)
            rcases hc with hc | hc | ⟨z, hz, hc⟩
            · exact .inl hc
            · exact .inr (.inr ⟨x, hxL, hc.symm⟩)
            · obtain ⟨i', hi', hz'⟩ := hin _ hix z hz
              exact .inr (.inr ⟨z, ((HI.out.mem hi').1 hz').1, hc⟩)

end Go.Proofs.Ytgpebbopggmgbaa
