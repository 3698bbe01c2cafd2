/- Contracts of porpoiselaw04's helpers: awake, do, ran. -/
import Derived.Test.YtlfeenibepmicaaRingDo
import Derived.Test.YtlfeenibepmicaaRef04
namespace Go.Proofs.Ytlfeenibepmicaa
set_option linter.unusedVariables false
open Go.ChangeShapes Go.WideShapes Go.ChangeAt Go.RowKit

/-- A ring that was made since w0; of what was there ahead of it nothing has turned. -/
structure Ow (w0 w : World) (b most : Nat) (L : List Int) : Prop where
  rng : Rng w b most L
  low : Below w0.heap.size w0 w
  at_ : w0.heap.size ≤ b
section
variable {w0 w w' : World} {b most : Nat} {L L' : List Int} {v : Value}
theorem Ow.after (h : Ow w0 w b most L) (hf : Frm (· = b) w w') (hr : Rng w' b most L') : Ow w0 w' b most L' :=
  ⟨hr, h.low.trans (hf.below h.low.size (fun j hj e => by have := h.at_; omega)), h.at_⟩
theorem Ow.below (h : Ow w0 w b most L) (hb : Below w.heap.size w w') : Ow w0 w' b most L := ⟨h.rng.below hb, h.low.trans (hb.mono h.low.size), h.at_⟩
theorem Ow.ali (h : Ow w0 w b most L) (ha : Ali w w') : Ow w0 w' b most L := h.below (ali_below ha)
theorem Ow.alloc (h : Ow w0 w b most L) (o : Obj) : Ow w0 (w.alloc o) b most L := h.below (below_alloc w o)
/-- A ring, and the document's list, with the same numbers. -/
structure Sy (w0 w : World) (b most : Nat) (L : List Int) (v : Value) : Prop where
  ow : Ow w0 w b most L
  row : Ints w w0.heap.size v L
theorem Sy.below (h : Sy w0 w b most L v) (hb : Below w.heap.size w w') : Sy w0 w' b most L v := ⟨h.ow.below hb, h.row.below hb⟩
theorem Sy.ali (h : Sy w0 w b most L v) (ha : Ali w w') : Sy w0 w' b most L v := h.below (ali_below ha)
theorem Sy.after (h : Sy w0 w b most L v) (hf : Frm (· = b) w w') (hr : Rng w' b most L') : Ow w0 w' b most L' ∧ Ints w' w0.heap.size v L := ⟨h.ow.after hf hr, h.ow.rng.ints hf h.row⟩
end
theorem ow_new (w0 w : World) (most : Nat) (h : most ≤ 8) (hb : Below w0.heap.size w0 w) : Calls Try.prog 10 #[.int .i64 most] w fun r w' => r = .returned (.pointer (some ⟨w.heap.size, 0, none⟩)) ∧ Ow w0 w' w.heap.size most [] ∧ Below w.heap.size w w' := by
  refine (new_some most w h).mono ?_
  rintro r w' ⟨rfl, hr, hb'⟩
  exact ⟨rfl, ⟨hr, hb.trans (hb'.mono hb.size), hb.size⟩, hb'⟩

set_option maxHeartbeats 2000000 in
theorem awake_any (w : World) : Calls Try.prog 9 #[] w fun r w' => r = .returned (.bool true) ∧ Below w.heap.size w w' := by
  have n64 : ∀ n : Int, 0 ≤ n → n ≤ 100 → wf64 n := fun n h h' => ⟨by omega, by omega⟩
  go_enter Try.func9, Try.ntmps9
  go_wp2_with fail
  refine (ow_new w w 3 (by omega) (Below.refl _ _)).mono ?_
  rintro r w1 ⟨rfl, h1, _⟩
  have H1 := Lib.hid h1
  clear h1
  go_wp2_with fail
  refine (push_some _ 3 1 [] w1 H1.out.rng (by simp) (n64 _ (by omega) (by omega))).mono ?_
  rintro r w2 ⟨rfl, hf, hr⟩
  have H2 := Lib.hid (H1.out.after hf hr)
  clear hf hr H1
  go_wp2_with fail
  refine (push_some _ 3 2 _ w2 H2.out.rng (by simp) (n64 _ (by omega) (by omega))).mono ?_
  rintro r w3 ⟨rfl, hf, hr⟩
  have H3 := Lib.hid (H2.out.after hf hr)
  clear hf hr H2
  go_wp2_with fail
  refine (push_some _ 3 3 _ w3 H3.out.rng (by simp) (n64 _ (by omega) (by omega))).mono ?_
  rintro r w4 ⟨rfl, hf, hr⟩
  have H4 : Hid (Ow w w4 w.heap.size 3 [1, 2, 3]) := Lib.hid (H3.out.after hf hr)
  clear hf hr H3
  go_wp2_with fail
  refine (full_ring _ 3 _ w4 H4.out.rng).mono ?_
  rintro r w5 ⟨rfl, ha⟩
  have H5 := Lib.hid (H4.out.ali ha)
  clear ha H4
  go_wp2_with fail
  refine (push_full _ 3 4 _ w5 H5.out.rng (by simp)).mono ?_
  rintro r w6 ⟨rfl, ha⟩
  have H6 := Lib.hid (H5.out.ali ha)
  clear ha H5
  go_wp2_with fail
  refine (remove_ring _ 3 2 _ w6 H6.out.rng).mono ?_
  rintro r w7 ⟨rfl, hf, hr⟩
  have H7 : Hid (Ow w w7 w.heap.size 3 [1, 3]) := Lib.hid (H6.out.after hf hr)
  clear hf hr H6
  go_wp2_with fail
  refine (pop_some _ 3 1 _ w7 H7.out.rng).mono ?_
  rintro r w8 ⟨rfl, hf, hr⟩
  have H8 := Lib.hid (H7.out.after hf hr)
  clear hf hr H7
  go_wp2_with fail
  refine (pop_some _ 3 3 _ w8 H8.out.rng).mono ?_
  rintro r w9 ⟨rfl, hf, hr⟩
  have H9 := Lib.hid (H8.out.after hf hr)
  clear hf hr H8
  go_wp2_with fail
  refine (len_ring _ 3 _ w9 H9.out.rng).mono ?_
  rintro r wX ⟨rfl, rfl⟩
  go_wp2
  go_ret
  exact ⟨rfl, H9.out.low⟩

abbrev dobj (kd x : Int) : Obj := .cells #[.int .i64 kd, .int .i64 x] 30
theorem dcells {w : World} {j : Nat} {kd x : Int} (h : w.heap[j]? = some (dobj kd x)) : w.cell? ⟨j, 0, none⟩ = some (.int .i64 kd) ∧ w.cell? ⟨j, 1, none⟩ = some (.int .i64 x) := ⟨by rw [cell_of h]; rfl, by rw [cell_of h]; rfl⟩

set_option maxHeartbeats 4000000 in
theorem do_any (w0 : World) (b most : Nat) (kd x : Int) (L : List Int) (v : Value) (w : World) (h : Sy w0 w b most L v) (hx : wf64 x) :
    Calls Try.prog 11 #[.pointer (some ⟨b, 0, none⟩), v, .int .i64 most, .agg #[.int .i64 kd, .int .i64 x]] w fun r w' => ∃ v', r = .returned (.tuple #[v', .bool true]) ∧ ∃ L', Sy w0 w' b most L' v' := by
  have h1 := h.below (below_alloc w (dobj kd x))
  have hd1 := heap_alloc_at w (dobj kd x)
  have hl8 : L.length ≤ 8 := Nat.le_trans h.ow.rng.le h.ow.rng.le8
  have hlm := h.ow.rng.le
  generalize hW : w.alloc (dobj kd x) = w1 at *
  obtain ⟨d0, d1⟩ := dcells hd1
  have H1 := Lib.hid h1
  have D1 := Lib.hid hd1
  clear h h1 hd1
  by_cases k1 : kd = 1
  · subst k1
    by_cases hfull : L.length = most
    · obtain ⟨A, n, c, hv, hrow, hnl, hnc, hcm⟩ := own_row' H1.out.row
      go_enter Try.func11, Try.ntmps11
      go_wp2_with fail
      refine (push_full b most x L w1 H1.out.ow.rng hfull).mono ?_
      clear d0 d1
      rintro r w2 ⟨rfl, ha⟩
      obtain ⟨d0, d1⟩ := dcells (kb_below D1.out (ali_below ha))
      have H2 := Lib.hid (H1.out.ali ha)
      clear ha
      rw [hv]
      rw [hv] at H2
      clear hrow hv
      go_wp2_with fail
      refine (rpush_full A n c most x w2 (by have := hnl.out; omega)).mono ?_
      rintro r w3 ⟨rfl, rfl⟩
      go_wp2
      go_ret2
      exact ⟨_, rfl, L, H2.out⟩
    · go_enter Try.func11, Try.ntmps11
      go_wp2_with fail
      refine (push_some b most x L w1 H1.out.ow.rng (by omega) hx).mono ?_
      clear d0 d1
      rintro r w2 ⟨rfl, hf, hr⟩
      obtain ⟨d0, d1⟩ := dcells (H1.out.ow.rng.kept hf D1.out (by decide))
      obtain ⟨o2, i2⟩ := H1.out.after hf hr
      obtain ⟨A, n, c, hv, hrow, hnl, hnc, hcm⟩ := own_row' i2
      have O2 := Lib.hid o2
      have R2 := Lib.hid hrow
      clear hf hr o2 i2 hrow
      subst hv
      go_wp2_with fail
      refine (rpush_some A n c most x L w2 R2.out hnl.out (by have := hnl.out; omega) (by have := hnl.out; omega) hx).mono ?_
      rintro r w3 ⟨v', rfl, hi, hb⟩
      have H3 : Hid (Sy w0 w3 b most (L ++ [x]) v') := Lib.hid ⟨O2.out.below hb, hi.mono O2.out.low.size⟩
      clear hi hb d0 d1
      go_wp2
      go_ret2
      exact ⟨_, rfl, _, H3.out⟩
  · have k1' : (kd == 1) = false := by simp [k1]
    by_cases k2 : kd = 2
    · have k2' : (kd == 2) = true := by simp [k2]
      clear k1 k2
      cases L with
      | nil =>
        obtain ⟨A, n, c, hv, hrow, hnl, hnc, hcm⟩ := own_row' H1.out.row
        have hn0 : n = 0 := by have := hnl.out; simpa using this.symm
        subst hn0
        subst hv
        clear hrow
        go_enter Try.func11, Try.ntmps11
        go_wp2_with fail
        refine (pop_none b most w1 H1.out.ow.rng).mono ?_
        rintro r w2 ⟨rfl, rfl⟩
        go_wp2_with fail
        refine (rpop_none A c w2).mono ?_
        rintro r w3 ⟨rfl, rfl⟩
        go_wp2
        go_ret2
        exact ⟨_, rfl, [], H1.out⟩
      | cons y l =>
        go_enter Try.func11, Try.ntmps11
        go_wp2_with fail
        refine (pop_some b most y l w1 H1.out.ow.rng).mono ?_
        clear d0 d1
        rintro r w2 ⟨rfl, hf, hr⟩
        obtain ⟨o2, i2⟩ := H1.out.after hf hr
        obtain ⟨A, n, c, hv, hrow, hnl, hnc, hcm⟩ := own_row' i2
        have O2 := Lib.hid o2
        have R2 := Lib.hid hrow
        clear hf hr o2 i2 hrow
        subst hv
        go_wp2_with fail
        refine (rpop_some A n c y l w2 R2.out hnl.out hnc hcm (by have := hnl.out; omega)).mono ?_
        rintro r w3 ⟨v', rfl, hi, hb⟩
        have H3 : Hid (Sy w0 w3 b most l v') := Lib.hid ⟨O2.out.below hb, hi.mono O2.out.low.size⟩
        clear hi hb
        go_wp2
        go_ret2
        exact ⟨_, rfl, _, H3.out⟩
    · have k2' : (kd == 2) = false := by simp [k2]
      clear k1 k2
      go_enter Try.func11, Try.ntmps11
      go_wp2_with fail
      refine (remove_ring b most x L w1 H1.out.ow.rng).mono ?_
      clear d0 d1
      rintro r w2 ⟨rfl, hf, hr⟩
      obtain ⟨d0, d1⟩ := dcells (H1.out.ow.rng.kept hf D1.out (by decide))
      obtain ⟨o2, i2⟩ := H1.out.after hf hr
      obtain ⟨A, n, c, hv, hrow, hnl, hnc, hcm⟩ := own_row' i2
      have O2 := Lib.hid o2
      have R2 := Lib.hid hrow
      clear hf hr o2 i2 hrow
      subst hv
      go_wp2_with fail
      refine (rremove_any A n c x L w2 R2.out hnl.out (by have := hnl.out; omega)).mono ?_
      rintro r w3 ⟨v', rfl, hi, hb⟩
      have H3 : Hid (Sy w0 w3 b most (L.erase x) v') := Lib.hid ⟨O2.out.below hb, hi.mono O2.out.low.size⟩
      clear hi hb d0 d1
      generalize decide (x ∈ L) = t
      go_wp2
      go_ret2
      exact ⟨_, rfl, _, H3.out⟩

theorem deed_at {w : World} {a : Option Addr} {len cap : Nat} {D : List (List Value)} (h : SliceIn w [.int .i64, .int .i64] 16 a len cap D) {i : Nat} (hi : i < len) :
    ∃ blk off kd x, a = some ⟨blk, off, none⟩ ∧ w.cell? ⟨blk, off + i * 2, none⟩ = some (.int .i64 kd) ∧ w.cell? ⟨blk, off + i * 2 + 1, none⟩ = some (.int .i64 x) ∧ wf64 x := by
  obtain ⟨h1, h2, _, _, _, h6⟩ := h
  rcases h6 with h6 | ⟨blk, off, ha, _, hc⟩
  · omega
  · have hr : D[i]? = some (D[i]'(by omega)) := List.getElem?_eq_getElem (by omega)
    have hf := h2 _ (List.getElem_mem (by omega) : D[i]'(by omega) ∈ D)
    generalize D[i]'(by omega) = row at hr hf
    cases row with
    | nil => exact hf.elim
    | cons c0 row =>
      cases row with
      | nil => exact hf.2.elim
      | cons c1 row =>
        obtain ⟨⟨kd, rfl, _⟩, ⟨x, rfl, hx⟩, _⟩ := hf
        refine ⟨blk, off, kd, x, ha, ?_, ?_, bounds_i64 hx⟩
        · simpa using hc i 0 _ _ hr rfl
        · have := hc i 1 _ _ hr rfl
          simpa [Nat.add_assoc] using this

set_option maxHeartbeats 2000000 in
theorem ran_any (w0 : World) (a : Option Addr) (l k : Nat) (D : List (List Value)) (w : World) (hs : SliceIn w0 [.int .i64, .int .i64] 16 a l k D) (hb : Below w0.heap.size w0 w) :
    Calls Try.prog 16 #[.slice a l k] w fun r w' => ∃ b, r = .returned (.pointer (some ⟨b, 0, none⟩)) ∧ ∃ L, Ow w0 w' b 5 L := by
  obtain ⟨n, hn⟩ : ∃ n, (if 100 < l then 100 else l) = n := ⟨_, rfl⟩
  have hn' : n ≤ l ∧ n ≤ 100 ∧ (n < 100 → n = l) := by rw [← hn]; split <;> omega
  have hml := hs.2.2.2.2.1
  have hlk := hs.2.2.1
  unfold maxLen at hml
  have HS := Lib.hid hs
  have HB := Lib.hid hb
  clear hs hb hn
  go_enter Try.func16, Try.ntmps16
  go_wp2_with fail
  refine (ow_new w0 w 5 (by omega) HB.out).mono ?_
  rintro r w1 ⟨rfl, h1, _⟩
  have H1 := Lib.hid h1
  clear h1
  generalize w.heap.size = b at *
  go_wp2
  go_loopg [4, 5] n (fun g v4 v5 wr => ∃ (i : Nat) (L : List Int), i + g = n ∧ v5 = .int .i64 i ∧ Sy w0 wr b 5 L v4)
  case atStart => exact ⟨0, [], by omega, rfl, H1.out, Ints.nil _ _⟩
  case round =>
    obtain ⟨i, L, hg, rfl, hsy⟩ := hrel
    have G := Lib.hid hg
    have SY := Lib.hid hsy
    clear hg hsy
    by_cases hin : i < n
    · have hi1 : (i : Int) < l := by omega
      have hi2 : (i : Int) < 100 := by omega
      obtain ⟨blk, off, kd, x, rfl, q0, q1, hx⟩ := deed_at HS.out (i := i) (by omega)
      have p0 := cell_later SY.out.ow.low q0
      have p1 := cell_later SY.out.ow.low q1
      clear q0 q1
      go_wp2_with fail
      refine (do_any w0 b 5 kd x L _ wr SY.out hx).mono ?_
      rintro r w2 ⟨v', rfl, L', h2⟩
      have H2 := Lib.hid h2
      clear h2 p0 p1
      go_wp2
      go_roundg (n - (i + 1))
      case measure => have := G.out; omega
      case rel => exact ⟨i + 1, L', by omega, by simp, H2.out⟩
    · by_cases hl : i < l
      · have hi1 : (i : Int) < l := by omega
        have hi2 : ¬ (i : Int) < 100 := by omega
        go_wp2
        go_ret
        exact ⟨_, rfl, _, SY.out.ow⟩
      · have hi1 : ¬ (i : Int) < l := by omega
        go_wp2
        go_ret
        exact ⟨_, rfl, _, SY.out.ow⟩
end Go.Proofs.Ytlfeenibepmicaa
