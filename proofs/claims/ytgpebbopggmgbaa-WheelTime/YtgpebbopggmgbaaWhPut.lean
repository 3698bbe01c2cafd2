/- Contract of Put. -/
import Derived.Test.YtgpebbopggmgbaaWhStep
import Derived.Deep.DeepCutAuto
namespace Go.Proofs.Ytgpebbopggmgbaa
set_option linter.unusedVariables false
open Go.ChangeShapes Go.WideShapes Go.ChangeAt Go.RowKit

theorem put_nil (k i due : Int) (w : World) :
    Calls Try.prog 20 #[.pointer none, .agg #[.int .i64 k, .int .i64 i], .int .u64 due] w fun r w' => Below w.heap.size w w' ∧ r = .returned (.int .i64 1) := by
  have hb0 := Lib.hid (below_alloc w (.cells #[.int .i64 k, .int .i64 i] 25))
  go_enter Try.func20, Try.ntmps20
  go_wp2
  go_ret
  exact ⟨hb0.out, rfl⟩

set_option maxHeartbeats 1000000 in
theorem put_there (b m : Nat) (now k i due : Int) (L : List Ent) (w : World) (h : Whl w b m now L) (hk : wf64 k) (hi : wf64 i) (e : Ent) (he : e ∈ L) (hek : e.k = k) (hei : e.i = i) :
    Calls Try.prog 20 #[.pointer (some ⟨b, 0, none⟩), .agg #[.int .i64 k, .int .i64 i], .int .u64 due] w fun r w' => Below w.heap.size w w' ∧ r = .returned (.int .i64 4) ∧ Whl w' b m now L := by
  have hb0 := below_alloc w (.cells #[.int .i64 k, .int .i64 i] 25)
  have hw := h.below hb0
  have hf := find_any b m now k i L _ hw hk hi
  have HW := Lib.hid hw
  have HB0 := Lib.hid hb0
  have HE := Lib.hid (And.intro he (And.intro hek hei))
  clear hw hb0 h he hek hei
  go_enter Try.func20, Try.ntmps20
  go_wp2_with fail
  refine hf.mono ?_
  clear hf
  rintro r w1 ⟨hb1, q, rfl, hq⟩
  have HB := Lib.hid (HB0.out.trans (hb1.mono (by simp)))
  have HW1 := Lib.hid (HW.out.below hb1)
  cases q with
  | none => exact absurd HE.out.2 (hq e HE.out.1)
  | some e' =>
    clear hb1 hq
    rw [ptr_some]
    go_wp2
    go_ret
    exact ⟨HB.out, rfl, HW1.out⟩

set_option maxHeartbeats 1000000 in
theorem put_new (b m : Nat) (now k i due : Int) (L : List Ent) (w : World) (h : Whl w b m now L) (hk : wf64 k) (hi : wf64 i) (hd : 0 ≤ due) (hd' : due ≤ 18446744073709551615) (hn : ∀ e ∈ L, ¬ (e.k = k ∧ e.i = i)) (hlen : L.length < 1099511627776) :
    Calls Try.prog 20 #[.pointer (some ⟨b, 0, none⟩), .agg #[.int .i64 k, .int .i64 i], .int .u64 due] w fun r w' => Frm (Foot b m L) w w' ∧ r = .returned (.int .i64 0) ∧
      ∃ g, w.heap.size ≤ g ∧ Whl w' b m now (ins ⟨g, k, i, if due < now then now else due⟩ L) := by
  have hb0 := below_alloc w (.cells #[.int .i64 k, .int .i64 i] 25)
  have hat := heap_alloc_at w (.cells #[.int .i64 k, .int .i64 i] 25)
  have hw := h.below hb0
  have hf := find_any b m now k i L _ hw hk hi
  have HW := Lib.hid hw
  have HB0 := Lib.hid hb0
  have HN := Lib.hid hn
  have HAT := Lib.hid hat
  have hnow := h.now0
  obtain ⟨v, hv⟩ : ∃ v, (if due < now then now else due) = v := ⟨_, rfl⟩
  rw [hv]
  have hvb : now ≤ v ∧ v ≤ 18446744073709551615 := by rw [← hv]; split <;> omega
  clear hw hb0 h hn hat
  go_enter Try.func20, Try.ntmps20
  go_wp2_with fail
  refine hf.mono ?_
  clear hf
  rintro r w1 ⟨hb1, q, rfl, hq⟩
  have HB := Lib.hid (HB0.out.trans (hb1.mono (by simp)))
  have hw1 := HW.out.below hb1
  have HW1 := Lib.hid hw1
  cases q with
  | some e' => exact absurd hq.2 (HN.out e' hq.1)
  | none =>
    have hk1 : w1.heap[w.heap.size]? = some (.cells #[.int .i64 k, .int .i64 i] 25 (0, 0)) := by
      rw [hb1.block _ (by simp)]; exact HAT.out
    have k0 : w1.cell? ⟨w.heap.size, 0, none⟩ = some (.int .i64 k) := by rw [cell_of hk1]; rfl
    have k1 : w1.cell? ⟨w.heap.size, 1, none⟩ = some (.int .i64 i) := by rw [cell_of hk1]; rfl
    have c0 := hw1.cell0
    have HK1 := Lib.hid hk1
    clear hb1 hq hw1 hk1
    rw [ptr_none]
    go_wp2
    go_cut [7] (fun u wr => u = .pointer (some ⟨w1.heap.size, 0, none⟩) ∧ Ali (w1.alloc (.cells #[.int .i64 k, .int .i64 i, .int .u64 v, .pointer none, .pointer none] 72)) wr)
    case first =>
      go_region
      all_goals go_wp2
      all_goals go_meet
      all_goals exact ⟨rfl, rfl, rfl, rfl, rfl⟩
    case rest =>
      obtain ⟨rfl, ha⟩ := hcut
      obtain ⟨wb, hwb⟩ : ∃ x, x = wc := ⟨_, rfl⟩
      rw [← hwb] at ha ⊢
      clear hwb wc
      have hA := ha.heap
      have hlt1 := HW1.out.foot_lt (j := b) (.inl rfl)
      have hsz : w1.heap.size < (w1.alloc (.cells #[.int .i64 k, .int .i64 i, .int .u64 v, .pointer none, .pointer none] 72)).heap.size := by simp
      have hwr : Whl wb b m now L := (HW1.out.below (below_alloc _ _)).ali ha
      have hent : EntAt wb ⟨w1.heap.size, k, i, v⟩ none none := by
        unfold EntAt
        rw [hA]
        exact heap_alloc_at _ _
      have hkr : wb.heap[w.heap.size]? = some (.cells #[.int .i64 k, .int .i64 i] 25 (0, 0)) := by
        rw [hA, heap_alloc_lt (heap_lt HK1.out)]; exact HK1.out
      clear k0 k1 c0
      have k0 : wb.cell? ⟨w.heap.size, 0, none⟩ = some (.int .i64 k) := by rw [cell_of hkr]; rfl
      have k1 : wb.cell? ⟨w.heap.size, 1, none⟩ = some (.int .i64 i) := by rw [cell_of hkr]; rfl
      have c1 := hwr.cell1
      obtain ⟨w3, hr, hmap3, ht3⟩ := MapL.store (w := wb.drew) (hwr.map.keep rfl) (e := ⟨w1.heap.size, k, i, v⟩) hwr.wf hk hi HN.out (by unfold maxLen; omega)
      unfold tv at hr
      simp only at hr
      have HWR := Lib.hid hwr
      have HENT := Lib.hid hent
      have HM3 := Lib.hid hmap3
      have HT3 := Lib.hid (grown_drew (World.mapTurned.grown ht3))
      have HAW := Lib.hid ha
      clear hwr hent hmap3 ht3 hkr ha hA
      go_wp2
      go_cut [6] (fun u w9 => u = .int .i64 0 ∧ w9 = w3)
      case first =>
        go_region
        all_goals go_wp2
        all_goals go_meet
        all_goals exact ⟨rfl, rfl⟩
      case rest =>
        obtain ⟨rfl, hw3⟩ := hcut
        rw [hw3]
        clear hr k0 k1 c1 hsz hw3 wc
        obtain ⟨ls, hmc, hinv⟩ := HWR.out.ex
        have hnm := mem_not_map hmc HWR.out.map
        have hbl : ∀ j, j ≠ m → j < wb.heap.size → w3.heap[j]? = wb.heap[j]? := fun j hj hlt => HT3.out.block j hlt (fun hc => hj (by injection hc))
        obtain ⟨es, ck, hobj⟩ := HWR.out.map.obj
        have hgm : w1.heap.size ≠ m := fun hc => by
          have := HENT.out
          unfold EntAt at this
          rw [hc, hobj] at this
          cases this
        have hm3 : Mem w3 b m now ls := hmc.keep (hbl b hnm.1.symm (HWR.out.foot_lt (.inl rfl))) (fun i' hi' x hx => hbl x.g (hnm.2 i' hi' x hx) (HWR.out.foot_lt (.inr (.inr ⟨x, ((hinv.mem hi').1 hx).1, rfl⟩))))
        have hent3 : EntAt w3 ⟨w1.heap.size, k, i, v⟩ none none := HENT.out.keep (hbl _ hgm HENT.out.lt)
        have hfresh : ∀ j, j < 257 → ∀ x ∈ ls j, x.g ≠ w1.heap.size := fun j hj x hx hc => by
          have := HW1.out.foot_lt (j := x.g) (.inr (.inr ⟨x, ((hinv.mem hj).1 hx).1, rfl⟩))
          omega
        obtain ⟨_, _, e2, _⟩ := hent3.cells
        obtain ⟨_, _, _, c0, _⟩ := hm3.cells
        have hpl := place_any b now v w3 c0 hnow.1 hnow.2 (by omega) hvb.2
        have hadd : ∀ w4, Ali w3 w4 → _ := fun w4 ha => add_mem (hm3.ali ha) hinv.apart_ls (ix_lt now v) (hent3.ali ha) hfresh
        have HM3' := Lib.hid hm3
        have HINV := Lib.hid hinv
        have HNM := Lib.hid hnm
        have HFR := Lib.hid hfresh
        clear hm3 hinv hnm hfresh hmc hbl hent3 c0
        simp only at e2 hadd
        go_wp2_with fail
        refine hpl.mono ?_
        clear hpl
        rintro r w4 ⟨rfl, ha4⟩
        have hadd4 := hadd w4 ha4
        have HA4 := Lib.hid ha4
        clear hadd ha4 e2
        go_wp2_with fail
        refine hadd4.mono ?_
        clear hadd4
        rintro r w5 ⟨rfl, hm5, hf5⟩
        have HM5 := Lib.hid hm5
        have HF5 := Lib.hid hf5
        clear hm5 hf5
        go_wp2
        go_ret
        have hmlt : m < w4.heap.size := by rw [HA4.out.heap]; exact HM3.out.lt
        have hsz1 : w.heap.size ≤ w1.heap.size := HB.out.size
        refine ⟨?_, rfl, w1.heap.size, hsz1, ⟨_, HM5.out.congr (fun i' _ => ?_), HINV.out.put (e := ⟨w1.heap.size, k, i, v⟩) ?_ HN.out hvb.1 hvb.2 ⟨hk.1, hk.2, hi.1, hi.2⟩⟩, HM3.out.keep ?_⟩
        · have f1 : Frm (Foot b m L) w w1 := Frm.of_below HB.out
          have f2 := (f1.alloc (.cells #[.int .i64 k, .int .i64 i, .int .u64 v, .pointer none, .pointer none] 72)).ali HAW.out
          have f3 := (f2.trans (Frm.of_grown (F := Foot b m L) HT3.out (.inr (.inl rfl))) (fun _ _ h => h)).ali HA4.out
          refine f3.trans HF5.out (fun j hj hc => ?_)
          rcases hc with hc | hc | ⟨x, hx, hc⟩
          · exact .inl hc
          · have hc' : j = w1.heap.size := hc
            omega
          · exact .inr (.inr ⟨x, ((HINV.out.mem (ix_lt _ _)).1 hx).1, hc⟩)
        · unfold upd
          split
          · rename_i hc; subst hc; rfl
          · rfl
        · intro x hx hc
          have := HW1.out.foot_lt (j := x.g) (.inr (.inr ⟨x, hx, rfl⟩))
          have hc' : x.g = w1.heap.size := hc
          omega
        · rw [HF5.out.block m hmlt ?_, HA4.out.heap]
          rintro (hc | hc | ⟨x, hx, hc⟩)
          · exact HNM.out.1 hc
          · exact hgm hc.symm
          · exact HNM.out.2 _ (ix_lt _ _) x hx hc

/-- What Put does. -/
theorem put_whl (b m : Nat) (now k i due : Int) (L : List Ent) (w : World) (h : Whl w b m now L) (hk : wf64 k) (hi : wf64 i) (hd : 0 ≤ due) (hd' : due ≤ 18446744073709551615) (hlen : L.length < 1099511627776) :
    Calls Try.prog 20 #[.pointer (some ⟨b, 0, none⟩), .agg #[.int .i64 k, .int .i64 i], .int .u64 due] w fun r w' => Frm (Foot b m L) w w' ∧
      ((∃ e ∈ L, e.k = k ∧ e.i = i ∧ r = .returned (.int .i64 4) ∧ Whl w' b m now L) ∨
       ((∀ e ∈ L, ¬ (e.k = k ∧ e.i = i)) ∧ r = .returned (.int .i64 0) ∧ ∃ g, w.heap.size ≤ g ∧ Whl w' b m now (ins ⟨g, k, i, if due < now then now else due⟩ L))) := by
  by_cases hq : ∃ e ∈ L, e.k = k ∧ e.i = i
  · obtain ⟨e, he, hek, hei⟩ := hq
    refine (put_there b m now k i due L w h hk hi e he hek hei).mono ?_
    rintro r w' ⟨hb, rfl, hw⟩
    exact ⟨.of_below hb, .inl ⟨e, he, hek, hei, rfl, hw⟩⟩
  · have hn : ∀ e ∈ L, ¬ (e.k = k ∧ e.i = i) := fun e he hc => hq ⟨e, he, hc⟩
    refine (put_new b m now k i due L w h hk hi hd hd' hn hlen).mono ?_
    rintro r w' ⟨hf, rfl, hw⟩
    exact ⟨hf, .inr ⟨hn, rfl, hw⟩⟩

end Go.Proofs.Ytgpebbopggmgbaa
