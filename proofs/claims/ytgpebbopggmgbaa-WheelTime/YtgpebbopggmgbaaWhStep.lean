/- Contract of Step. -/
import Derived.Test.YtgpebbopggmgbaaWhApi
namespace Go.Proofs.Ytgpebbopggmgbaa
set_option linter.unusedVariables false
open Go.ChangeShapes Go.WideShapes Go.ChangeAt Go.RowKit

theorem step_over (b m : Nat) (now to : Int) (L : List Ent) (w : World) (h : Whl w b m now L) (ht : to < now) :
    Calls Try.prog 16 #[.pointer (some ⟨b, 0, none⟩), .int .u64 to] w fun r w' => Frm (Foot b m L) w w' ∧ r = .returned (.tuple #[.agg #[.int .i64 0, .int .i64 0], .bool false]) ∧ Whl w' b m now L := by
  have hb0 := below_alloc w (.cells #[.int .i64 0, .int .i64 0] 25)
  have hw := h.below hb0
  have c0 := hw.cell0
  have HW := Lib.hid hw
  have HB := Lib.hid hb0
  clear hw hb0 h
  go_enter Try.func16, Try.ntmps16
  go_wp2
  refine bodyPost_ret (v := .tuple #[.agg #[.int .i64 0, .int .i64 0], .bool false]) (by simp [results, Try.results16, go_sem]; done) rfl ?_
  exact ⟨.of_below HB.out, rfl, HW.out⟩
theorem step_nil (to : Int) (w : World) :
    Calls Try.prog 16 #[.pointer none, .int .u64 to] w fun r w' => Below w.heap.size w w' ∧ r = .returned (.tuple #[.agg #[.int .i64 0, .int .i64 0], .bool false]) := by
  have hb0 := Lib.hid (below_alloc w (.cells #[.int .i64 0, .int .i64 0] 25))
  go_enter Try.func16, Try.ntmps16
  go_wp2
  refine bodyPost_ret (v := .tuple #[.agg #[.int .i64 0, .int .i64 0], .bool false]) (by simp [results, Try.results16, go_sem]; done) rfl ?_
  exact ⟨hb0.out, rfl⟩

set_option maxHeartbeats 1000000 in
theorem step_none (b m : Nat) (now to : Int) (L : List Ent) (w : World) (h : Whl w b m now L) (ht : now ≤ to) (ht' : to ≤ 18446744073709551615) (hall : ∀ e ∈ L, to < e.d) :
    Calls Try.prog 16 #[.pointer (some ⟨b, 0, none⟩), .int .u64 to] w fun r w' => Frm (Foot b m L) w w' ∧ r = .returned (.tuple #[.agg #[.int .i64 0, .int .i64 0], .bool false]) ∧ Whl w' b m to L := by
  have hb0 := below_alloc w (.cells #[.int .i64 0, .int .i64 0] 25)
  have hat := heap_alloc_at w (.cells #[.int .i64 0, .int .i64 0] 25)
  have hw := h.below hb0
  have hlt := hw.now0
  generalize hW : w.alloc (.cells #[.int .i64 0, .int .i64 0] 25) = w1 at *
  have c0 := hw.cell0
  have hlev := levS_bd now to
  have hf := first_any b m now (levS now to) L w1 hw hlev.1 hlev.2
  have hmiss := Lib.hid (upTo_miss (now := now) (top := levS now to) hall)
  have hin : ∀ e, upTo now L (levS now to) = some e → e ∈ L := fun e he => (List.mem_filter.1 (List.mem_of_mem_head? he)).1
  have HW := Lib.hid hw
  have HB := Lib.hid hb0
  have HAT := Lib.hid hat
  have HIN := Lib.hid hin
  have HALL := Lib.hid hall
  clear hw hb0 hat hin hall h
  go_enter Try.func16, Try.ntmps16
  go_wp2_with fail
  refine (level_any _ _ _ hlt.1 hlt.2 (by omega) ht').mono ?_
  rintro e w' ⟨rfl, rfl⟩
  go_wp2_with fail
  refine hf.mono ?_
  clear hf
  rintro r w2 ⟨rfl, ha⟩
  have HA := Lib.hid ha
  have htu := turn_any b m now to L w2 (HW.out.ali ha) ht ht' (fun e he => Int.le_of_lt (HALL.out e he))
  have hfin : ∀ w3, Whl w3 b m to L ∧ Frm (Foot b m L) w2 w3 → Frm (Foot b m L) w w3 ∧ w3.heap[w.heap.size]? = some (.cells #[.int .i64 0, .int .i64 0] 25 (0, 0)) := fun w3 h3 => by
    refine ⟨((Frm.of_below (F := Foot b m L) HB.out).ali HA.out).trans h3.2 (fun _ _ h => h), ?_⟩
    have h2 : w2.heap[w.heap.size]? = some (.cells #[.int .i64 0, .int .i64 0] 25 (0, 0)) := by rw [HA.out.heap]; exact HAT.out
    rw [h3.2.block _ (heap_lt h2) ((HW.out.ali HA.out).not_foot h2 (by decide) (by decide))]
    exact h2
  have HFIN := Lib.hid hfin
  clear ha hfin c0
  have htail : ∀ w3, Whl w3 b m to L ∧ Frm (Foot b m L) w2 w3 → w3.cell? ⟨w.heap.size, 0, none⟩ = some (.int .i64 0) ∧ w3.cell? ⟨w.heap.size, 1, none⟩ = some (.int .i64 0) ∧ w3.frozen? ⟨w.heap.size, 0, none⟩ = false ∧ w3.frozen? ⟨w.heap.size, 1, none⟩ = false := fun w3 h3 => by
    have hr := (HFIN.out w3 h3).2
    exact ⟨by rw [cell_of hr]; rfl, by rw [cell_of hr]; rfl, frozen_of hr _, frozen_of hr _⟩
  have HT := Lib.hid htail
  clear htail
  have hend : ∀ w3, Whl w3 b m to L ∧ Frm (Foot b m L) w2 w3 → Frm (Foot b m L) w ((w3.setCell ⟨w.heap.size, 0, none⟩ (.int .i64 0)).setCell ⟨w.heap.size, 1, none⟩ (.int .i64 0)) ∧
      Whl ((w3.setCell ⟨w.heap.size, 0, none⟩ (.int .i64 0)).setCell ⟨w.heap.size, 1, none⟩ (.int .i64 0)) b m to L := fun w3 h3 => by
    have hr := (HFIN.out w3 h3).2
    have hnf := h3.1.not_foot hr (by decide) (by decide)
    refine ⟨⟨(HFIN.out w3 h3).1.os, (HFIN.out w3 h3).1.tape, (HFIN.out w3 h3).1.output, by rw [heap_set_size, heap_set_size]; exact (HFIN.out w3 h3).1.size, fun j hj hn => ?_⟩, h3.1.keep fun j hj => ?_⟩
    · have hne : j ≠ w.heap.size := by omega
      rw [heap_set_other hne, heap_set_other hne]
      exact (HFIN.out w3 h3).1.block j hj hn
    · have hne : j ≠ w.heap.size := fun hc => hnf (hc ▸ hj)
      rw [heap_set_other hne, heap_set_other hne]
  have HE := Lib.hid hend
  clear hend
  have hgt : ∀ e, upTo now L (levS now to) = some e → to < e.d := hmiss.out
  cases hq : upTo now L (levS now to) with
  | none =>
    rw [ptr_none]
    clear hq hgt
    go_wp2_with fail
    refine htu.mono ?_
    clear htu
    rintro r w3 ⟨rfl, h3⟩
    obtain ⟨r0, r1, z0, z1⟩ := HT.out w3 h3
    have H3 := Lib.hid h3
    clear h3
    go_wp2
    refine bodyPost_ret (v := .tuple #[.agg #[.int .i64 0, .int .i64 0], .bool false]) (by simp [results, Try.results16, go_sem, r0, r1]; done) rfl ?_
    exact ⟨(HE.out w3 H3.out).1, rfl, (HE.out w3 H3.out).2⟩
  | some e =>
    rw [ptr_some]
    have hgt' := hgt e hq
    obtain ⟨q, n, hent⟩ := (HW.out.ali HA.out).ent (HIN.out e hq)
    obtain ⟨_, _, e2, _⟩ := hent.cells
    clear hq hgt hent
    go_wp2_with fail
    refine htu.mono ?_
    clear htu
    rintro r w3 ⟨rfl, h3⟩
    obtain ⟨r0, r1, z0, z1⟩ := HT.out w3 h3
    have H3 := Lib.hid h3
    clear h3 e2
    go_wp2
    refine bodyPost_ret (v := .tuple #[.agg #[.int .i64 0, .int .i64 0], .bool false]) (by simp [results, Try.results16, go_sem, r0, r1]; done) rfl ?_
    exact ⟨(HE.out w3 H3.out).1, rfl, (HE.out w3 H3.out).2⟩

set_option maxHeartbeats 1000000 in
theorem step_some (b m : Nat) (now to : Int) (e : Ent) (l : List Ent) (w : World) (h : Whl w b m now (e :: l)) (ht : e.d ≤ to) (ht' : to ≤ 18446744073709551615) :
    Calls Try.prog 16 #[.pointer (some ⟨b, 0, none⟩), .int .u64 to] w fun r w' => Frm (Foot b m (e :: l)) w w' ∧ r = .returned (.tuple #[.agg #[.int .i64 e.k, .int .i64 e.i], .bool true]) ∧ Whl w' b m e.d l := by
  have hb0 := below_alloc w (.cells #[.int .i64 0, .int .i64 0] 25)
  have hat := heap_alloc_at w (.cells #[.int .i64 0, .int .i64 0] 25)
  have hw := h.below hb0
  have hlt := hw.now0
  have hdu := h.due e (by simp)
  have hdel : del e.g (e :: l) = l := del_split (l1 := []) h.apart
  have hso := h.sorted
  generalize hW : w.alloc (.cells #[.int .i64 0, .int .i64 0] 25) = w1 at *
  have c0 := hw.cell0
  have hlev := levS_bd now to
  have hf := first_any b m now (levS now to) (e :: l) w1 hw hlev.1 hlev.2
  rw [upTo_hit hdu.1 ht, ptr_some] at hf
  have hto : ¬ to < now := by omega
  have HW := Lib.hid hw
  have HB := Lib.hid hb0
  have HAT := Lib.hid hat
  have HDEL := Lib.hid hdel
  have HSO := Lib.hid hso
  clear hw hb0 hat hdel h hso
  go_enter Try.func16, Try.ntmps16
  go_wp2_with fail
  refine (level_any _ _ _ hlt.1 hlt.2 (by omega) ht').mono ?_
  rintro r w' ⟨rfl, rfl⟩
  go_wp2_with fail
  refine hf.mono ?_
  clear hf
  rintro r w2 ⟨rfl, ha⟩
  have htu := turn_any b m now e.d (e :: l) w2 (HW.out.ali ha) hdu.1 hdu.2 (fun x hx => by
    rcases List.mem_cons.1 hx with rfl | hx
    · exact Int.le_refl _
    · exact (List.pairwise_cons.1 HSO.out).1 x hx)
  obtain ⟨q, n, hent⟩ := (HW.out.ali ha).ent (e := e) (by simp)
  obtain ⟨_, _, e2, _⟩ := hent.cells
  have HA := Lib.hid ha
  clear ha c0 hent
  have hgt : ¬ to < e.d := by omega
  go_wp2_with fail
  refine htu.mono ?_
  clear htu e2
  rintro r w3 ⟨rfl, hw3, hf3⟩
  have hdr := drop_any b m e.d (e :: l) w3 hw3 e (by simp)
  rw [HDEL.out] at hdr
  have HW3 := Lib.hid hw3
  have HF3 := Lib.hid hf3
  clear hw3 hf3
  go_wp2_with fail
  refine hdr.mono ?_
  clear hdr
  rintro r w4 ⟨rfl, hw4, he4, hf4⟩
  obtain ⟨q', n', hent3⟩ := HW3.out.ent (e := e) (by simp)
  obtain ⟨e0, e1, _⟩ := (hent3.keep he4).cells
  have h2 : w2.heap[w.heap.size]? = some (.cells #[.int .i64 0, .int .i64 0] 25 (0, 0)) := by rw [HA.out.heap]; exact HAT.out
  have h3 : w3.heap[w.heap.size]? = some (.cells #[.int .i64 0, .int .i64 0] 25 (0, 0)) := by
    rw [HF3.out.block _ (heap_lt h2) ((HW.out.ali HA.out).not_foot h2 (by decide) (by decide))]; exact h2
  have h4 : w4.heap[w.heap.size]? = some (.cells #[.int .i64 0, .int .i64 0] 25 (0, 0)) := by
    rw [hf4.block _ (heap_lt h3) (HW3.out.not_foot h3 (by decide) (by decide))]; exact h3
  have r0 : w4.cell? ⟨w.heap.size, 0, none⟩ = some (.int .i64 0) := by rw [cell_of h4]; rfl
  have r1 : w4.cell? ⟨w.heap.size, 1, none⟩ = some (.int .i64 0) := by rw [cell_of h4]; rfl
  have z0 : w4.frozen? ⟨w.heap.size, 0, none⟩ = false := frozen_of h4 _
  have z1 : w4.frozen? ⟨w.heap.size, 1, none⟩ = false := frozen_of h4 _
  have hframe : Frm (Foot b m (e :: l)) w w4 := (((Frm.of_below (F := Foot b m (e :: l)) HB.out).ali HA.out).trans HF3.out (fun _ _ h => h)).trans hf4 (fun _ _ h => h)
  have hnf := hw4.not_foot h4 (by decide) (by decide)
  have HFR := Lib.hid hframe
  have HW4 := Lib.hid hw4
  have HNF := Lib.hid hnf
  clear hent3 he4 hf4 h2 h3 h4 hframe hw4 hnf
  go_wp2
  refine bodyPost_ret (v := .tuple #[.agg #[.int .i64 e.k, .int .i64 e.i], .bool true]) (by simp [results, Try.results16, go_sem, r0, r1]; done) rfl ?_
  refine ⟨⟨HFR.out.os, HFR.out.tape, HFR.out.output, by rw [heap_set_size, heap_set_size]; exact HFR.out.size, fun j hj hn => ?_⟩, rfl, HW4.out.keep fun j hj => ?_⟩
  · have hne : j ≠ w.heap.size := by omega
    rw [heap_set_other hne, heap_set_other hne]
    exact HFR.out.block j hj hn
  · have hne : j ≠ w.heap.size := fun hc => HNF.out (hc ▸ hj)
    rw [heap_set_other hne, heap_set_other hne]

/-- What Step does: the first timer comes, if it is due; else it is that time. -/
theorem step_whl (b m : Nat) (now to : Int) (L : List Ent) (w : World) (h : Whl w b m now L) (ht' : to ≤ 18446744073709551615) :
    Calls Try.prog 16 #[.pointer (some ⟨b, 0, none⟩), .int .u64 to] w fun r w' => Frm (Foot b m L) w w' ∧
      ((∃ e l, L = e :: l ∧ e.d ≤ to ∧ r = .returned (.tuple #[.agg #[.int .i64 e.k, .int .i64 e.i], .bool true]) ∧ Whl w' b m e.d l) ∨
       ((∀ e ∈ L, to < e.d) ∧ r = .returned (.tuple #[.agg #[.int .i64 0, .int .i64 0], .bool false]) ∧ Whl w' b m (if now < to then to else now) L)) := by
  by_cases hn : to < now
  · refine (step_over b m now to L w h hn).mono ?_
    rintro r w' ⟨hf, rfl, hw⟩
    refine ⟨hf, .inr ⟨fun e he => ?_, rfl, by rw [if_neg (by omega)]; exact hw⟩⟩
    have := h.due e he; omega
  · by_cases ha : ∀ e ∈ L, to < e.d
    · refine (step_none b m now to L w h (by omega) ht' ha).mono ?_
      rintro r w' ⟨hf, rfl, hw⟩
      refine ⟨hf, .inr ⟨ha, rfl, ?_⟩⟩
      split
      · exact hw
      · have : to = now := by omega
        exact this ▸ hw
    · cases L with
      | nil => exact absurd (by simp) ha
      | cons e l =>
        have he : e.d ≤ to := by
          by_cases hc : e.d ≤ to
          · exact hc
          · refine absurd (fun x hx => ?_) ha
            rcases List.mem_cons.1 hx with rfl | hx
            · omega
            · have := (List.pairwise_cons.1 h.sorted).1 x hx; omega
        refine (step_some b m now to e l w h he ht').mono ?_
        rintro r w' ⟨hf, rfl, hw⟩
        exact ⟨hf, .inl ⟨e, l, rfl, he, rfl, hw⟩⟩

end Go.Proofs.Ytgpebbopggmgbaa
