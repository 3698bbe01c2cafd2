/- Contracts of package ring: drop, Push, Pop, Remove, List. -/
import Derived.Test.YtnmcnniilihecaaRing
namespace Go.Proofs.Ytnmcnniilihecaa
set_option linter.unusedVariables false
open Go.ChangeShapes Go.WideShapes Go.ChangeAt Go.RowKit

theorem Frm.one {b : Nat} {a w : World} (h : Frm (· = b) a w) (o : Nat) (u : Value) : Frm (· = b) a (w.setCell ⟨b, o, none⟩ u) := Frm.set (F := (· = b)) (p := ⟨b, o, none⟩) h rfl u
/-- The places when those behind p have moved up by i rounds. -/
def Up (Z Z' : List Int) (p i : Nat) : Prop := Z'.length = 8 ∧ ∀ j, j < 8 → Z'[j]? = if p ≤ j ∧ j < p + i then Z[j + 1]? else Z[j]?
theorem Up.step {Z Z' : List Int} {p i : Nat} (h : Up Z Z' p i) (hp : p + i + 1 < 8) {z : Int} (hz : Z[p + i + 1]? = some z) : Up Z (Z'.set (p + i) z) p (i + 1) := by
  refine ⟨by simp [h.1], fun j hj => ?_⟩
  rw [List.getElem?_set]
  by_cases hj' : p + i = j
  · subst hj'
    rw [if_pos rfl, if_pos (by rw [h.1]; omega), if_pos (by omega), hz]
  · rw [if_neg hj', h.2 j hj]
    by_cases hc : p ≤ j ∧ j < p + i
    · rw [if_pos hc, if_pos (by omega)]
    · rw [if_neg hc, if_neg (by omega)]
theorem Rng.dropped {w : World} {b most : Nat} {L Z Z' : List Int} {p n : Nat} (h1 : w.heap[b]? = some (robj most (n : Int) (Z'.set n 0))) (hn : L.length = n + 1) (hZ : ∀ j, j < L.length → Z[j]? = L[j]?) (hu : Up Z Z' p (n - p)) (hp : p ≤ n)
    (hle : L.length ≤ most) (h8 : most ≤ 8) (hwf : ∀ z ∈ L, wf64 z) : Rng w b most (L.eraseIdx p) := by
  have hl : (L.eraseIdx p).length = n := by rw [List.length_eraseIdx]; split <;> omega
  refine ⟨⟨Z'.set n 0, by rw [hl]; exact h1, by simp [hu.1], fun j hj => ?_⟩, by omega, h8, fun z hz => hwf z (List.mem_of_mem_eraseIdx hz)⟩
  rw [hl] at hj
  rw [List.getElem?_set_ne (by omega), hu.2 j (by omega), List.getElem?_eraseIdx]
  by_cases hc : j < p
  · rw [if_pos hc, if_neg (by omega), hZ j (by omega)]
  · rw [if_neg hc, if_pos (by omega), hZ (j + 1) (by omega)]

set_option maxHeartbeats 1000000 in
theorem drop_ring (b most p : Nat) (L : List Int) (w : World) (h : Rng w b most L) (hp : p < L.length) :
    Calls Try.prog 48 #[.pointer (some ⟨b, 0, none⟩), .int .i64 p] w fun r w' => r = .returned (.tuple #[]) ∧ Frm (· = b) w w' ∧ Rng w' b most (L.eraseIdx p) := by
  obtain ⟨Z, h1, hZ8, hZ⟩ := h.blk
  obtain ⟨n, hn⟩ : ∃ n, L.length = n + 1 := ⟨L.length - 1, by omega⟩
  have hle := h.le
  have h8 := h.le8
  have hwf := h.wf
  obtain ⟨c0, c1⟩ := robj_cells h1
  have f1 := frozen_of h1 1
  rw [hn] at h1 c1
  have hset := heap_set_same (o := 1) h1 (.int .i64 (n : Int))
  have hset' : (w.setCell ⟨b, 1, none⟩ (.int .i64 n)).heap[b]? = some (robj most n Z) := hset
  have hfr : Frm (· = b) w (w.setCell ⟨b, 1, none⟩ (.int .i64 n)) := (Frm.refl _ _).one _ _
  have H1 := Lib.hid hset'
  have HF := Lib.hid hfr
  have HZ := Lib.hid hZ
  have HZ8 := Lib.hid hZ8
  have HN := Lib.hid hn
  have HWF := Lib.hid hwf
  have hpn : p ≤ n := by omega
  have hn7 : n ≤ 7 := by omega
  clear h h1 hset hset' hfr hZ hZ8 hwf hp
  rw [hn] at hle
  clear hn
  have hcast : ((n : Int) + 1 - 1) = n := by omega
  go_enter Try.func48, Try.ntmps48
  go_wp2
  go_loopg [18] (n - p) (fun k v18 wr => ∃ (i : Nat) (Z' : List Int), i + k = n - p ∧ v18 = .int .i64 i ∧ wr.heap[b]? = some (robj most n Z') ∧ Up Z Z' p i ∧ Frm (· = b) w wr)
  case atStart =>
    refine ⟨0, Z, by omega, rfl, ?_, ⟨HZ8.out, fun j hj => by rw [if_neg (by omega)]⟩, ?_⟩
    · exact H1.out
    · exact HF.out
  case round =>
    obtain ⟨i, Z', hi, rfl, hb, hu, hf⟩ := hrel
    have HI := Lib.hid hi
    have HU := Lib.hid hu
    have HB := Lib.hid hb
    have HFr := Lib.hid hf
    by_cases hlt : i < n - p
    · have hlt' : (i : Int) < (n : Int) - (p : Int) := by omega
      have hz : Z[p + i + 1]? = some (Z[p + i + 1]'(by have := HZ8.out; omega)) := List.getElem?_eq_getElem _
      have hz' : Z'[p + i + 1]? = Z[p + i + 1]? := by rw [hu.2 _ (by omega), if_neg (by omega)]
      have hy : Z'[p + i]? = some (Z'[p + i]'(by have := hu.1; omega)) := List.getElem?_eq_getElem _
      generalize Z[p + i + 1]'(by have := HZ8.out; omega) = z at hz
      generalize Z'[p + i]'(by have := hu.1; omega) = y at hy
      have q1 := robj_cell hb (hz'.trans hz)
      have q0 := robj_cell hb hy
      have fq := frozen_of hb (2 + (p + i))
      have HZZ := Lib.hid hz
      have b1 : (p : Int) + i + 1 < 8 := by omega
      have b0 : (p : Int) + i < 8 := by omega
      have b2 : (0 : Int) ≤ (p : Int) + i := by omega
      clear hi hu hb hf hz hz' hy
      go_wp2
      go_region
      go_wp2
      go_roundg (n - p - (i + 1))
      case measure => have := HI.out; omega
      case rel =>
        refine ⟨i + 1, Z'.set (p + i) z, by omega, by simp, ?_, HU.out.step (by omega) HZZ.out, ?_⟩
        · exact (heap_set_same HB.out _).trans (by rw [robj_set])
        · exact (HFr.out.one _ _).ali (drew_ali _)
    · have hlt' : ¬ (i : Int) < (n : Int) - (p : Int) := by omega
      obtain ⟨c0', c1'⟩ := robj_cells hb
      have hy : Z'[n]? = some (Z'[n]'(by have := hu.1; omega)) := List.getElem?_eq_getElem _
      generalize Z'[n]'(by have := hu.1; omega) = y at hy
      have q0 := robj_cell hb hy
      have fq := frozen_of hb (2 + n)
      have b0 : (n : Int) < 8 := by omega
      clear hi hu hb hf hy
      go_wp2
      go_region
      go_wp2
      go_end0
      refine ⟨rfl, (HFr.out.one _ _).ali (drew_ali _), Rng.dropped (Z := Z) (Z' := Z') (n := n) ?_ HN.out HZ.out ?_ hpn (by rw [HN.out]; exact hle) h8 HWF.out⟩
      · exact (heap_set_same HB.out _).trans (by rw [robj_set])
      · have := HI.out
        rw [show n - p = i by omega]
        exact HU.out

theorem Rng.pushed {w : World} {b most : Nat} {L Z : List Int} {x : Int} (h1 : w.heap[b]? = some (robj most ((L.length : Int) + 1) (Z.set L.length x))) (hZ8 : Z.length = 8) (hZ : ∀ j, j < L.length → Z[j]? = L[j]?)
    (hle : L.length < most) (h8 : most ≤ 8) (hwf : ∀ z ∈ L, wf64 z) (hx : wf64 x) : Rng w b most (L ++ [x]) := by
  refine ⟨⟨Z.set L.length x, by rw [h1, List.length_append]; rfl, by simp [hZ8], fun j hj => ?_⟩, by simp; omega, h8, fun z hz => ?_⟩
  · rw [List.length_append] at hj
    simp at hj
    by_cases hc : j = L.length
    · subst hc
      rw [List.getElem?_set_self (by omega)]
      simp
    · rw [List.getElem?_set_ne (by omega), hZ j (by omega), List.getElem?_append_left (by omega)]
  · rcases List.mem_append.1 hz with hz | hz
    · exact hwf z hz
    · simp at hz; rw [hz]; exact hx

theorem push_full (b most : Nat) (x : Int) (L : List Int) (w : World) (h : Rng w b most L) (hl : L.length = most) :
    Calls Try.prog 37 #[.pointer (some ⟨b, 0, none⟩), .int .i64 x] w fun r w' => r = .returned (.bool false) ∧ Ali w w' := by
  have hf := full_ring b most L w h
  rw [show ((L.length : Int) == (most : Int)) = true by simp [hl]] at hf
  clear h hl
  go_enter Try.func37, Try.ntmps37
  go_wp2_with fail
  refine hf.mono ?_
  clear hf
  rintro r w1 ⟨rfl, ha⟩
  have HA := Lib.hid ha
  clear ha
  go_wp2
  go_ret
  exact ⟨rfl, HA.out⟩
set_option maxHeartbeats 1000000 in
theorem push_some (b most : Nat) (x : Int) (L : List Int) (w : World) (h : Rng w b most L) (hl : L.length < most) (hx : wf64 x) :
    Calls Try.prog 37 #[.pointer (some ⟨b, 0, none⟩), .int .i64 x] w fun r w' => r = .returned (.bool true) ∧ Frm (· = b) w w' ∧ Rng w' b most (L ++ [x]) := by
  have hf := full_ring b most L w h
  rw [show ((L.length : Int) == (most : Int)) = false by simp; omega] at hf
  obtain ⟨n, hn⟩ : ∃ n, L.length = n := ⟨_, rfl⟩
  have H := Lib.hid h
  have HL := Lib.hid hl
  have HN := Lib.hid hn
  have HX := Lib.hid hx
  clear h hl hx
  go_enter Try.func37, Try.ntmps37
  go_wp2_with fail
  refine hf.mono ?_
  clear hf
  rintro r w1 ⟨rfl, ha⟩
  have h1 := H.out.ali ha
  obtain ⟨Z, hb, hZ8, hZ⟩ := h1.blk
  have hm8 := h1.le8
  have hl := HL.out
  have HA := Lib.hid ha
  obtain ⟨c0, c1⟩ := robj_cells hb
  rw [hn] at c1 hl
  have hy : Z[n]? = some (Z[n]'(by omega)) := List.getElem?_eq_getElem _
  generalize Z[n]'(by omega) = y at hy
  have q0 := robj_cell hb hy
  have f0 := frozen_of hb (2 + n)
  have f1 := frozen_of hb 1
  have b0 : (n : Int) < 8 := by omega
  have HB := Lib.hid hb
  have HZ := Lib.hid hZ
  have HZ8 := Lib.hid hZ8
  have HW := Lib.hid h1.wf
  have ne1 : (2 + n : Nat) ≠ 1 := by omega
  have ne2 : (1 : Nat) ≠ 2 + n := by omega
  clear ha h1 hb hZ hZ8 hy hn hl
  go_wp2
  go_region
  go_wp2
  go_ret
  refine ⟨rfl, (((Frm.of_ali HA.out).one _ _).one _ _).ali (drew_ali _), Rng.pushed (Z := Z) ?_ HZ8.out HZ.out HL.out hm8 HW.out HX.out⟩
  have hb := HB.out
  rw [HN.out] at hb ⊢
  have h2 := heap_set_same (o := 2 + n) hb (.int .i64 x)
  rw [robj_set] at h2
  exact heap_set_same (o := 1) h2 _
theorem push_nil (x : Int) (w : World) : Calls Try.prog 37 #[.pointer none, .int .i64 x] w fun r w' => r = .returned (.bool false) ∧ Ali w w' := by
  go_enter Try.func37, Try.ntmps37
  go_wp2_with fail
  refine (full_nil w).mono ?_
  rintro r w1 ⟨rfl, ha⟩
  have HA := Lib.hid ha
  clear ha
  go_wp2
  go_ret
  exact ⟨rfl, HA.out⟩

theorem pop_none (b most : Nat) (w : World) (h : Rng w b most []) :
    Calls Try.prog 39 #[.pointer (some ⟨b, 0, none⟩)] w fun r w' => r = .returned (.tuple #[.int .i64 0, .bool false]) ∧ w' = w := by
  have hf := len_ring b most [] w h
  clear h
  go_enter Try.func39, Try.ntmps39
  go_wp2_with fail
  refine hf.mono ?_
  clear hf
  rintro r w1 ⟨rfl, rfl⟩
  go_wp2
  go_ret2
  exact ⟨rfl, rfl⟩
theorem pop_nil (w : World) : Calls Try.prog 39 #[.pointer none] w fun r w' => r = .returned (.tuple #[.int .i64 0, .bool false]) ∧ w' = w := by
  go_enter Try.func39, Try.ntmps39
  go_wp2_with fail
  refine (len_nil w).mono ?_
  rintro r w1 ⟨rfl, rfl⟩
  go_wp2
  go_ret2
  exact ⟨rfl, rfl⟩
theorem pop_some (b most : Nat) (x : Int) (l : List Int) (w : World) (h : Rng w b most (x :: l)) :
    Calls Try.prog 39 #[.pointer (some ⟨b, 0, none⟩)] w fun r w' => r = .returned (.tuple #[.int .i64 x, .bool true]) ∧ Frm (· = b) w w' ∧ Rng w' b most l := by
  have hf := len_ring b most (x :: l) w h
  have hd : Calls Try.prog 48 #[.pointer (some ⟨b, 0, none⟩), .int .i64 0] w _ := drop_ring b most 0 (x :: l) w h (by simp)
  obtain ⟨n, hn⟩ : ∃ n, (x :: l).length = n := ⟨_, rfl⟩
  rw [hn] at hf
  have hne : ((n : Int) == 0) = false := by rw [← hn]; simp; omega
  obtain ⟨Z, hb, hZ8, hZ⟩ := h.blk
  have q0 : w.cell? ⟨b, 2, none⟩ = some (.int .i64 x) := robj_cell hb (by rw [hZ 0 (by simp)]; rfl)
  clear h hn hb hZ8 hZ
  go_enter Try.func39, Try.ntmps39
  go_wp2_with fail
  refine hf.mono ?_
  clear hf
  rintro r w1 ⟨rfl, rfl⟩
  go_wp2_with fail
  refine hd.mono ?_
  clear hd
  rintro r w2 ⟨rfl, h2, h3⟩
  have H2 := Lib.hid h2
  have H3 := Lib.hid h3
  clear h2 h3
  go_wp2
  go_ret2
  exact ⟨rfl, H2.out, H3.out⟩

theorem erase_at {L : List Int} {j : Nat} {x : Int} (h : L[j]? = some x) (hn : x ∉ L.take j) : L.erase x = L.eraseIdx j := by
  have hlt := (List.getElem?_eq_some_iff.1 h).1
  have he := (List.getElem?_eq_some_iff.1 h).2
  have hs : L = L.take j ++ x :: L.drop (j + 1) := by rw [← he, ← List.drop_eq_getElem_cons hlt, List.take_append_drop]
  rw [List.eraseIdx_eq_take_drop_succ]
  conv => lhs; rw [hs]
  rw [List.erase_append_right _ hn, List.erase_cons_head]

set_option maxHeartbeats 1000000 in
theorem remove_ring (b most : Nat) (x : Int) (L : List Int) (w : World) (h : Rng w b most L) :
    Calls Try.prog 41 #[.pointer (some ⟨b, 0, none⟩), .int .i64 x] w fun r w' => r = .returned (.bool (decide (x ∈ L))) ∧ Frm (· = b) w w' ∧ Rng w' b most (L.erase x) := by
  have hf := len_ring b most L w h
  obtain ⟨n, hn⟩ : ∃ n, L.length = n := ⟨_, rfl⟩
  rw [hn] at hf
  have hn8 : n ≤ 8 := by have := h.le; have := h.le8; omega
  have H := Lib.hid h
  have HN := Lib.hid hn
  clear h hn
  go_enter Try.func41, Try.ntmps41
  go_wp2_with fail
  refine hf.mono ?_
  clear hf
  rintro r w1 ⟨rfl, rfl⟩
  go_wp2
  go_loopg [8] n (fun k v8 wr => ∃ j : Nat, j + k = n ∧ v8 = .int .i64 j ∧ x ∉ L.take j ∧ wr = w1)
  case atStart => exact ⟨0, by omega, rfl, by simp, rfl⟩
  case round =>
    obtain ⟨j, hj, rfl, hno, rfl⟩ := hrel
    have HJ := Lib.hid hj
    have HNO := Lib.hid hno
    clear hno hj
    by_cases hlt : j < n
    · have hlt' : (j : Int) < n := by omega
      have hb8 : (j : Int) < 8 := by omega
      have hjl : j < L.length := by rw [HN.out]; exact hlt
      obtain ⟨Z, hb, hZ8, hZ⟩ := H.out.blk
      have hz : L[j]? = some L[j] := List.getElem?_eq_getElem hjl
      have q0 := robj_cell hb ((hZ j hjl).trans hz)
      generalize hzz : L[j] = z at hz q0
      have hdr := drop_ring b most j L _ H.out hjl
      have HZ := Lib.hid hz
      clear hb hZ8 hZ hzz hz hjl
      by_cases hxz : z = x
      · have hxz' : (z == x) = true := by simp [hxz]
        have HX := Lib.hid hxz
        clear hxz
        go_wp2_with fail
        refine hdr.mono ?_
        clear hdr
        rintro r w2 ⟨rfl, h2, h3⟩
        have H2 := Lib.hid h2
        have H3 := Lib.hid h3
        clear h2 h3
        go_wp2
        go_ret
        have hat := HZ.out
        rw [HX.out] at hat
        refine ⟨ret_bool (by simp [List.mem_of_getElem? hat]), H2.out, ?_⟩
        rw [erase_at hat HNO.out]
        exact H3.out
      · have hxz' : (z == x) = false := by simp [hxz]
        have HX := Lib.hid hxz
        clear hxz hdr
        go_wp2
        go_roundg (n - (j + 1))
        case measure => have := HJ.out; omega
        case rel =>
          refine ⟨j + 1, by omega, by simp, ?_, rfl⟩
          have hlt := (List.getElem?_eq_some_iff.1 HZ.out).1
          have he := (List.getElem?_eq_some_iff.1 HZ.out).2
          rw [List.take_succ_eq_append_getElem hlt, he]
          intro hm
          rcases List.mem_append.1 hm with hm | hm
          · exact HNO.out hm
          · simp at hm; exact HX.out hm.symm
    · have hlt' : ¬ (j : Int) < n := by omega
      go_wp2
      go_ret
      have hno : x ∉ L := by
        have := HNO.out
        rwa [List.take_of_length_le (by rw [HN.out]; omega)] at this
      refine ⟨ret_bool (by simp [hno]), Frm.refl _ _, ?_⟩
      rw [List.erase_of_not_mem hno]
      exact H.out
theorem remove_nil (x : Int) (w : World) : Calls Try.prog 41 #[.pointer none, .int .i64 x] w fun r w' => r = .returned (.bool false) ∧ w' = w := by
  go_enter Try.func41, Try.ntmps41
  go_wp2_with fail
  refine (len_nil w).mono ?_
  rintro r w1 ⟨rfl, rfl⟩
  go_wp2
  refine wp_loop_rounds 1 ?_
  repeat any_goals (rw [rounds_succ]; go_wp2)
  all_goals (go_ret; exact ⟨rfl, rfl⟩)

set_option maxHeartbeats 1000000 in
theorem list_ring (b most : Nat) (L : List Int) (w : World) (h : Rng w b most L) :
    Calls Try.prog 33 #[.pointer (some ⟨b, 0, none⟩)] w fun r w' => ∃ v, r = .returned v ∧ Ints w' w.heap.size v L ∧ Below w.heap.size w w' := by
  have hf := len_ring b most L w h
  obtain ⟨n, hn⟩ : ∃ n, L.length = n := ⟨_, rfl⟩
  rw [hn] at hf
  have hn8 : n ≤ 8 := by have := h.le; have := h.le8; omega
  have H := Lib.hid h
  have HN := Lib.hid hn
  clear h hn
  go_enter Try.func33, Try.ntmps33
  go_wp2_with fail
  refine hf.mono ?_
  clear hf
  rintro r w1 ⟨rfl, rfl⟩
  go_wp2
  go_loopg [3, 7] n (fun k v3 v7 wr => ∃ j : Nat, j + k = n ∧ v7 = .int .i64 j ∧ Ints wr w1.heap.size v3 (L.take j) ∧ Below w1.heap.size w1 wr)
  case atStart => exact ⟨0, by omega, rfl, Ints.nil _ _, Below.refl _ _⟩
  case round =>
    obtain ⟨j, hj, rfl, hi, hbl⟩ := hrel
    have HJ := Lib.hid hj
    have HI := Lib.hid hi
    have HBL := Lib.hid hbl
    by_cases hlt : j < n
    · have hlt' : (j : Int) < n := by omega
      have hb8 : (j : Int) < 8 := by omega
      have hjl : j < L.length := by rw [HN.out]; exact hlt
      obtain ⟨Z, hb, hZ8, hZ⟩ := (H.out.below hbl).blk
      have hz : L[j]? = some L[j] := List.getElem?_eq_getElem hjl
      have q0 := robj_cell hb ((hZ j hjl).trans hz)
      have hwz := H.out.wf L[j] (List.getElem_mem hjl)
      generalize hzz : L[j] = z at hz q0 hwz
      have HZ := Lib.hid hz
      have HWZ := Lib.hid hwz
      clear hb hZ8 hZ hzz hz hi hbl hj hwz hjl
      go_wp2_with (first
        | (at_builtin
           refine wpList_app (base := w1.heap.size) rfl (.tmp 10) (.tmp 17) rfl rfl rfl (HI.out.alloc _) (row_one wr z HWZ.out) rfl (by rw [List.length_take]; omega) (by have := HBL.out.size; simp; omega) ?_
           intro v' w' own' gr' _
           have OWN := Lib.hid own'
           have GR := Lib.hid gr'
           clear own' gr'))
      go_roundg (n - (j + 1))
      case measure => have := HJ.out; omega
      case rel =>
        refine ⟨j + 1, by omega, by simp, ?_, ?_⟩
        · have hlt := (List.getElem?_eq_some_iff.1 HZ.out).1
          have he := (List.getElem?_eq_some_iff.1 HZ.out).2
          rw [List.take_succ_eq_append_getElem hlt, he]
          exact OWN.out
        · have h1 := HBL.out.alloc (o := .cells #[.int .i64 z] 3) HBL.out.size
          exact h1.trans (grown_below GR.out h1.size HI.out.low)
    · have hlt' : ¬ (j : Int) < n := by omega
      clear hi hbl hj
      go_wp2
      go_ret
      refine ⟨_, rfl, ?_, HBL.out⟩
      have := HI.out
      rwa [List.take_of_length_le (by rw [HN.out]; omega)] at this
theorem list_nil (w : World) : Calls Try.prog 33 #[.pointer none] w fun r w' => r = .returned (.slice none 0 0) ∧ w' = w := by
  go_enter Try.func33, Try.ntmps33
  go_wp2_with fail
  refine (len_nil w).mono ?_
  rintro r w1 ⟨rfl, rfl⟩
  go_wp2
  refine wp_loop_rounds 1 ?_
  repeat any_goals (rw [rounds_succ]; go_wp2)
  all_goals (go_ret; exact ⟨rfl, rfl⟩)
end Go.Proofs.Ytnmcnniilihecaa
