/- Contracts of porpoiseref05: Free, Take. -/
import Derived.Test.YtikocninbbkgdaaRef05
namespace Go.Proofs.Ytikocninbbkgdaa
set_option linter.unusedVariables false
open Go.ChangeShapes Go.WideShapes Go.ChangeAt Go.RowKit

theorem outH_append (h : Hol) (V : List Hol) (z : Hol) : outH h (V ++ [z]) = if z = h then outH h V else outH h V ++ [z] := by
  unfold outH
  rw [List.filter_append]
  by_cases e : z = h <;> simp [e]
theorem out_lt {h : Hol} {V : List Hol} (hd : V.Nodup) : decide ((outH h V).length < V.length) = decide (h ∈ V) := by
  by_cases hm : h ∈ V
  · have := length_outH hd hm
    simp [hm]
    omega
  · rw [outH_not hm]
    simp [hm]

set_option maxHeartbeats 1000000 in
theorem rfree_any (A : Option Addr) (n c : Nat) (x y : Int) (V : List Hol) (w : World) (hr : RowR hrec w A n V) (hwf : ∀ h ∈ V, wfH h) (hx : wfH (x, y)) (hn : n ≤ 1000) (hd : V.Nodup) :
    Calls Try.prog 24 #[.slice A n c, .agg #[.int .i64 x, .int .i64 y]] w fun r w' => ∃ v, r = .returned (.tuple #[v, .bool (decide ((x, y) ∈ V))]) ∧ RefR w' w.heap.size v (outH (x, y) V) ∧ Below w.heap.size w w' := by
  have hb1 := below_alloc w (robj (x, y))
  have hd1 := heap_alloc_at w (robj (x, y))
  have hr1 := hr.later hb1
  have hV := hr.1
  generalize hW : w.alloc (robj (x, y)) = w1 at *
  have HB := Lib.hid hb1
  have HD := Lib.hid hd1
  have HR := Lib.hid hr1
  have HV := Lib.hid hV
  have HWF := Lib.hid hwf
  have HND := Lib.hid hd
  clear hr hb1 hd1 hr1 hwf hV hd
  go_enter Try.func24, Try.ntmps24
  go_wp2
  go_loopg [6, 7] n (fun k v6 v7 wr => ∃ j : Nat, j + k = n ∧ v7 = .int .i64 j ∧ RefR wr w1.heap.size v6 (outH (x, y) (V.take j)) ∧ Below w1.heap.size w1 wr)
  case atStart => exact ⟨0, by omega, rfl, OwnR.nil _ _ _, Below.refl _ _⟩
  case round =>
    obtain ⟨j, hj, rfl, hi, hbl⟩ := hrel
    have HJ := Lib.hid hj
    have HI := Lib.hid hi
    have HBL := Lib.hid hbl
    clear hj hW
    by_cases hlt : j < n
    · have hlt' : (j : Int) < n := by omega
      obtain ⟨b, off, z1, z2, rfl, hz, q0, q1⟩ := (HR.out.later hbl).two hlt
      obtain ⟨d0, d1⟩ := rcells (kb_below HD.out hbl)
      have heq := ref_eq z1 z2 x y (HWF.out _ (List.mem_of_getElem? hz)) hx
      have HZ := Lib.hid hz
      clear hz hi hbl
      by_cases hc : (z1, z2) = (x, y)
      · have hdc : decide ((z1, z2) = (x, y)) = true := by simp [hc]
        rw [hdc] at heq
        have HC := Lib.hid hc
        clear hc hdc
        go_wp2
        go_quiet (fail)
        go_wp2
        go_roundg (n - (j + 1))
        case measure => have := HJ.out; omega
        case rel =>
          refine ⟨j + 1, by omega, by simp, ?_, below_drewN HBL.out _⟩
          rw [take_succ HZ.out, outH_append, if_pos HC.out]
          exact HI.out.ali (drewN_ali _ _)
      · have hdc : decide ((z1, z2) = (x, y)) = false := by simp [hc]
        rw [hdc] at heq
        have HC := Lib.hid hc
        clear hc hdc
        go_wp2
        go_quiet (fail)
        rename_i nq
        generalize hwq : wr.drewN nq = wq
        have ha : Ali wr wq := by rw [← hwq]; exact drewN_ali _ _
        have q0' : wq.cell? ⟨b, off + j * 2, none⟩ = some (.int .i64 z1) := (World.cell?_of_block (w := wr) (by rw [ha.heap])).trans q0
        have q1' : wq.cell? ⟨b, off + j * 2 + 1, none⟩ = some (.int .i64 z2) := (World.cell?_of_block (w := wr) (by rw [ha.heap])).trans q1
        have src := RowR.one (R := hrec) wq ((z1, z2) : Hol) 24 (cs := #[.int .i64 z1, .int .i64 z2]) rfl
        have SRC := Lib.hid src
        have HQ := Lib.hid (HI.out.ali ha)
        have HBQ := Lib.hid (below_ali HBL.out ha)
        have hll : (outH (x, y) (V.take j)).length ≤ 1000 := by
          have h1 := length_outH_le (x, y) (V.take j)
          rw [List.length_take] at h1
          omega
        have HLL := Lib.hid hll
        clear hwq ha q0 q1 d0 d1 src heq hll
        go_wp2_with (first
          | (at_builtin
             refine wpList_appF (base := w1.heap.size) rfl (.tmp 20) (.tmp 25) rfl rfl rfl (HQ.out.alloc _) SRC.out (by have := HLL.out; omega) (by have := HBQ.out.size; simp; omega) ?_
             intro v' w' own' gr' _
             have OWN := Lib.hid own'
             have GR := Lib.hid gr'
             clear own' gr'))
        go_roundg (n - (j + 1))
        case measure => have := HJ.out; omega
        case rel =>
          refine ⟨j + 1, by omega, by simp, ?_, ?_⟩
          · rw [take_succ HZ.out, outH_append, if_neg HC.out]
            exact OWN.out
          · have h1 := HBQ.out.alloc (o := robj (z1, z2)) HBQ.out.size
            exact h1.trans (grown_below GR.out h1.size HQ.out.low)
    · have hlt' : ¬ (j : Int) < n := by omega
      have hall : V.take j = V := List.take_of_length_le (by rw [HV.out]; omega)
      rw [hall] at HI
      obtain ⟨A', n', c', hv, _, hnl, _, _⟩ := HI.out.row'
      have hres := out_lt (h := (x, y)) HND.out
      rw [hnl.out, HV.out] at hres
      subst hv
      have HRES := Lib.hid hres
      clear hi hbl hall hres
      go_wp2
      go_ret2
      refine ⟨_, by rw [← HRES.out]; rfl, HI.out.mono HB.out.size, HB.out.trans (HBL.out.mono HB.out.size)⟩

theorem rtake_no (A : Option Addr) (n c : Nat) (most : Int) (x y : Int) (V : List Hol) (w : World) (hr : RowR hrec w A n V) (hwf : ∀ h ∈ V, wfH h) (hx : wfH (x, y)) (hno : most ≤ (n : Int) ∨ (x, y) ∈ V) :
    Calls Try.prog 23 #[.slice A n c, .int .i64 most, .agg #[.int .i64 x, .int .i64 y]] w fun r w' => r = .returned (.tuple #[.slice A n c, .bool false]) ∧ Below w.heap.size w w' := by
  have hb1 := below_alloc w (robj (x, y))
  have hd1 := heap_alloc_at w (robj (x, y))
  have hr1 := hr.later hb1
  generalize hW : w.alloc (robj (x, y)) = w1 at *
  have HB := Lib.hid hb1
  have HNO := Lib.hid hno
  by_cases hm : most ≤ (n : Int)
  · clear hr hb1 hd1 hr1 hwf hno
    go_enter Try.func23, Try.ntmps23
    go_wp2
    go_ret2
    exact ⟨rfl, HB.out⟩
  · have hm' : ¬ most ≤ (n : Int) := hm
    have hh := rholds_any A n c x y V w1 hr1 hwf hx
    have hin : (x, y) ∈ V := by rcases HNO.out with a | a; exact (hm a).elim; exact a
    rw [decide_eq_true hin] at hh
    obtain ⟨d0, d1⟩ := rcells hd1
    clear hr hb1 hd1 hr1 hwf hno hin
    go_enter Try.func23, Try.ntmps23
    go_wp2_with fail
    refine hh.mono ?_
    clear hh
    rintro r w2 ⟨rfl, hb2⟩
    have HB2 := Lib.hid (HB.out.trans (hb2.mono HB.out.size))
    clear hb2 d0 d1
    go_wp2
    go_ret2
    exact ⟨rfl, HB2.out⟩

set_option maxHeartbeats 2000000 in
theorem rtake_some (g c n : Nat) (most : Int) (x y : Int) (V : List Hol) (w : World) (hr : RowR hrec w (some ⟨g, 0, none⟩) n V) (hnc : n ≤ c) (hcm : c ≤ maxLen) (hwf : ∀ h ∈ V, wfH h) (hx : wfH (x, y)) (hn : n ≤ 1000) (hm : (n : Int) < most) (hno : (x, y) ∉ V) :
    Calls Try.prog 23 #[.slice (some ⟨g, 0, none⟩) n c, .int .i64 most, .agg #[.int .i64 x, .int .i64 y]] w fun r w' => ∃ v, r = .returned (.tuple #[v, .bool true]) ∧ RefR w' w.heap.size v (insH (x, y) V) ∧ Below w.heap.size w w' := by
  have hb1 := below_alloc w (robj (x, y))
  have hd1 := heap_alloc_at w (robj (x, y))
  have hr1 := hr.later hb1
  have hV := hr.1
  have hm' : ¬ most ≤ (n : Int) := by omega
  unfold maxLen at hcm
  generalize hW : w.alloc (robj (x, y)) = w1 at *
  have hh := rholds_any (some ⟨g, 0, none⟩) n c x y V w1 hr1 hwf hx
  rw [decide_eq_false hno] at hh
  obtain ⟨d0, d1⟩ := rcells hd1
  have HB := Lib.hid hb1
  have HD := Lib.hid hd1
  have HR := Lib.hid hr1
  have HV := Lib.hid hV
  clear hr hb1 hd1 hr1 hwf hno hV
  go_enter Try.func23, Try.ntmps23
  go_wp2_with fail
  refine hh.mono ?_
  clear hh
  rintro r w2 ⟨rfl, hb2⟩
  have HB2 := Lib.hid hb2
  clear hb2 d0 d1 hm hm'
  go_wp2
  go_loopg [8] n (fun k v8 wr => ∃ j : Nat, j + k = n ∧ v8 = .int .i64 j ∧ (∀ i z, i < j → V[i]? = some z → ltH z (x, y) = true) ∧ Below w1.heap.size w1 wr)
  case atStart => exact ⟨0, by omega, rfl, fun i z hi => by omega, HB2.out⟩
  case round =>
    obtain ⟨j, hj, rfl, hal, hbl⟩ := hrel
    have HJ := Lib.hid hj
    have HAL := Lib.hid hal
    have HBL := Lib.hid hbl
    clear hj hal hW
    by_cases hlt : j < n
    · have hlt' : (j : Int) < n := by omega
      obtain ⟨b, off, z1, z2, e, hz, q0, q1⟩ := (HR.out.later hbl).two hlt
      injection e with e
      injection e with e1 e2
      subst e1 e2
      rw [Nat.zero_add] at q0 q1
      obtain ⟨d0, d1⟩ := rcells (kb_below HD.out hbl)
      have HZ := Lib.hid hz
      have hle := less_any z1 z2 x y wr.drew
      clear hz hbl
      go_wp2
      refine region_tail 10 (by kernel_rfl) (by kernel_rfl) ?_
      simp only [List.take_succ_cons, List.take_zero, List.drop_succ_cons, List.drop_zero]
      generalize hwd : wr.drew = wd at *
      have ha : Ali wr wd := by rw [← hwd]; exact drew_ali _
      have q0' : wd.cell? ⟨g, j * 2, none⟩ = some (.int .i64 z1) := (World.cell?_of_block (w := wr) (by rw [ha.heap])).trans q0
      have q1' : wd.cell? ⟨g, j * 2 + 1, none⟩ = some (.int .i64 z2) := (World.cell?_of_block (w := wr) (by rw [ha.heap])).trans q1
      have d0' : wd.cell? ⟨w.heap.size, 0, none⟩ = some (.int .i64 x) := (World.cell?_of_block (w := wr) (by rw [ha.heap])).trans d0
      have d1' : wd.cell? ⟨w.heap.size, 1, none⟩ = some (.int .i64 y) := (World.cell?_of_block (w := wr) (by rw [ha.heap])).trans d1
      have HBD := Lib.hid (below_ali HBL.out ha)
      clear q0 q1 d0 d1 hwd ha
      repeat still_step
      refine wpStill_nil ?_
      go_wp2_with fail
      refine hle.mono ?_
      clear hle q0' q1' d0' d1'
      rintro r w3 ⟨rfl, hb3⟩
      have HB3 := Lib.hid (HBD.out.trans (hb3.mono HBD.out.size))
      clear hb3
      by_cases hlv : ltH (z1, z2) (x, y) = true
      · rw [hlv]
        have HLV := Lib.hid hlv
        clear hlv
        go_wp2
        go_roundg (n - (j + 1))
        case measure => have := HJ.out; omega
        case rel =>
          refine ⟨j + 1, by omega, by simp, fun i z hi hz => ?_, HB3.out⟩
          by_cases hij : i < j
          · exact HAL.out i z hij hz
          · obtain rfl : i = j := by omega
            rw [HZ.out] at hz
            injection hz with hz
            rw [← hz]
            exact HLV.out
      · have hlv' : ltH (z1, z2) (x, y) = false := by simpa using hlv
        rw [hlv']
        have INS : Hid (insH (x, y) V = V.take j ++ ((x, y) :: V.drop j)) := Lib.hid (insH_at HAL.out (fun z hz => by
          rw [HZ.out] at hz
          injection hz with hz
          rw [← hz]
          exact hlv'))
        clear hlv hlv'
        have hE0 : RefR (w3.alloc (.cells #[] 24)) w1.heap.size (.slice (some ⟨w3.heap.size, 0, none⟩) 0 0) [] := OwnR.empty w3 _ HB3.out.size
        have hbE := HB3.out.alloc HB3.out.size (.cells #[] 24)
        have hsplit : V = V.take j ++ V.drop j := (List.take_append_drop j V).symm
        have hlj : (V.take j).length = j := by rw [List.length_take, HV.out]; omega
        obtain ⟨q, rfl⟩ : ∃ q, n = j + q := ⟨n - j, by omega⟩
        have hT0 : RowR hrec (w3.alloc (.cells #[] 24)) (some ⟨g, 0, none⟩) j (V.take j) := RowR.take (V := V.drop j) (by rw [List.take_append_drop]; exact HR.out.later hbE) hlj
        have hD0 : RowR hrec w1 (if c = j then some ⟨g, 0, none⟩ else some ⟨g, 0 + j * 2, none⟩) q (V.drop j) := RowR.drop (R := hrec) (U := V.take j) (V := V.drop j) (by rw [List.take_append_drop]; exact HR.out) hlj hnc rfl
        rw [Nat.zero_add] at hD0
        rw [if_neg (by omega)] at hD0
        have E0 := Lib.hid hE0
        have HBE := Lib.hid hbE
        have T0 := Lib.hid hT0
        have D0 := Lib.hid hD0
        have LJ := Lib.hid hlj
        have c1 : (j : Int) ≤ c := by omega
        have c2 : (j : Int) ≤ (j : Int) + q := by omega
        have c3 : (j : Int) + q ≤ c := by omega
        clear hE0 hbE hT0 hD0 hlj hsplit
        go_wp2_with (first
          | (at_builtin
             refine wpList_appF (base := w1.heap.size) rfl (.tmp 34) (.tmp 37) rfl rfl rfl E0.out T0.out (by simp; omega) HBE.out.size ?_
             intro v5 w5 own5 gr5 _
             have OWN5 := Lib.hid (show RefR w5 w1.heap.size v5 (V.take j) from own5)
             have hb5 := HBE.out.trans (grown_below gr5 HBE.out.size E0.out.low)
             have HB5 := Lib.hid hb5
             obtain ⟨f0, f1⟩ := rcells (kb_below HD.out hb5)
             clear own5 gr5 hb5)
          | (at_builtin
             refine wpList_appF (base := w1.heap.size) rfl (.tmp 39) (.tmp 41) rfl rfl rfl (OWN5.out.alloc _) (RowR.one (R := hrec) w5 ((x, y) : Hol) 24 (cs := #[.int .i64 x, .int .i64 y]) rfl) (by have := LJ.out; omega) (by have := HB5.out.size; simp; omega) ?_
             intro v6 w6 own6 gr6 _
             have OWN6 := Lib.hid own6
             have hb6' := HB5.out.alloc HB5.out.size (robj (x, y))
             have hb6 := hb6'.trans (grown_below gr6 hb6'.size OWN5.out.low)
             have HB6 := Lib.hid hb6
             have D6 := Lib.hid (D0.out.later hb6)
             clear own6 gr6 hb6 hb6' f0 f1)
          | (at_builtin
             refine wpList_appF (base := w1.heap.size) rfl (.tmp 43) (.tmp 46) rfl rfl rfl OWN6.out D6.out (by have := LJ.out; simp; omega) HB6.out.size ?_
             intro v7 w7 own7 gr7 _
             have OWN7 := Lib.hid own7
             have HB7 := Lib.hid (HB6.out.trans (grown_below gr7 HB6.out.size OWN6.out.low))
             clear own7 gr7))
        all_goals (
          go_ret2
          refine ⟨_, rfl, ?_, HB.out.trans (HB7.out.mono HB.out.size)⟩
          rw [INS.out]
          have := OWN7.out
          rw [List.append_assoc] at this
          exact this.mono HB.out.size)
    · have hlt' : ¬ (j : Int) < n := by omega
      have INS : Hid (insH (x, y) V = V.take j ++ ((x, y) :: V.drop j)) := Lib.hid (insH_at HAL.out (fun z hz => by
        have := (List.getElem?_eq_some_iff.1 hz).1
        rw [HV.out] at this
        omega))
      obtain ⟨d0, d1⟩ := rcells (kb_below HD.out hbl)
      clear hbl
      go_wp2
      refine region_tail 10 (by kernel_rfl) (by kernel_rfl) ?_
      simp only [List.take_succ_cons, List.take_zero, List.drop_succ_cons, List.drop_zero]
      generalize hwd : wr.drew = w3 at *
      have ha : Ali wr w3 := by rw [← hwd]; exact drew_ali _
      have HB3 := Lib.hid (below_ali HBL.out ha)
      clear hwd ha d0 d1
      repeat still_step
      refine wpStill_nil ?_
      have HJN : j ≤ n := by have := HJ.out; omega
      have hE0 : RefR (w3.alloc (.cells #[] 24)) w1.heap.size (.slice (some ⟨w3.heap.size, 0, none⟩) 0 0) [] := OwnR.empty w3 _ HB3.out.size
      have hbE := HB3.out.alloc HB3.out.size (.cells #[] 24)
      have hsplit : V = V.take j ++ V.drop j := (List.take_append_drop j V).symm
      have hlj : (V.take j).length = j := by rw [List.length_take, HV.out]; omega
      obtain ⟨q, rfl⟩ : ∃ q, n = j + q := ⟨n - j, by omega⟩
      have hT0 : RowR hrec (w3.alloc (.cells #[] 24)) (some ⟨g, 0, none⟩) j (V.take j) := RowR.take (V := V.drop j) (by rw [List.take_append_drop]; exact HR.out.later hbE) hlj
      have hD0 : RowR hrec w1 (if c = j then some ⟨g, 0, none⟩ else some ⟨g, 0 + j * 2, none⟩) q (V.drop j) := RowR.drop (R := hrec) (U := V.take j) (V := V.drop j) (by rw [List.take_append_drop]; exact HR.out) hlj hnc rfl
      rw [Nat.zero_add] at hD0
      obtain rfl : q = 0 := by omega
      have hnil : ∀ (A : Option Addr) (W : World), RowR hrec W A 0 (V.drop j) := fun A W => by rw [show V.drop j = [] from List.drop_of_length_le (by rw [HV.out]; omega)]; exact RowR.nil A
      have E0 := Lib.hid hE0
      have HBE := Lib.hid hbE
      have T0 := Lib.hid hT0
      have D0 := Lib.hid hD0
      have LJ := Lib.hid hlj
      have c1 : (j : Int) ≤ c := by omega
      clear hE0 hbE hT0 hD0 hlj hsplit
      go_wp2_with (first
        | (at_builtin
           refine wpList_appF (base := w1.heap.size) rfl (.tmp 34) (.tmp 37) rfl rfl rfl E0.out T0.out (by simp; omega) HBE.out.size ?_
           intro v5 w5 own5 gr5 _
           have OWN5 := Lib.hid (show RefR w5 w1.heap.size v5 (V.take j) from own5)
           have hb5 := HBE.out.trans (grown_below gr5 HBE.out.size E0.out.low)
           have HB5 := Lib.hid hb5
           obtain ⟨f0, f1⟩ := rcells (kb_below HD.out hb5)
           clear own5 gr5 hb5)
        | (at_builtin
           refine wpList_appF (base := w1.heap.size) rfl (.tmp 39) (.tmp 41) rfl rfl rfl (OWN5.out.alloc _) (RowR.one (R := hrec) w5 ((x, y) : Hol) 24 (cs := #[.int .i64 x, .int .i64 y]) rfl) (by have := LJ.out; omega) (by have := HB5.out.size; simp; omega) ?_
           intro v6 w6 own6 gr6 _
           have OWN6 := Lib.hid own6
           have hb6' := HB5.out.alloc HB5.out.size (robj (x, y))
           have hb6 := hb6'.trans (grown_below gr6 hb6'.size OWN5.out.low)
           have HB6 := Lib.hid hb6
           have D6 := Lib.hid (D0.out.later hb6)
           clear own6 gr6 hb6 hb6' f0 f1)
        | (at_builtin
           refine wpList_appF (base := w1.heap.size) rfl (.tmp 43) (.tmp 46) rfl rfl rfl OWN6.out (hnil _ _) (by have := LJ.out; simp; omega) HB6.out.size ?_
           intro v7 w7 own7 gr7 _
           have OWN7 := Lib.hid own7
           have HB7 := Lib.hid (HB6.out.trans (grown_below gr7 HB6.out.size OWN6.out.low))
           clear own7 gr7))
      all_goals (
        go_ret2
        refine ⟨_, rfl, ?_, HB.out.trans (HB7.out.mono HB.out.size)⟩
        rw [INS.out]
        have := OWN7.out
        rw [List.append_assoc] at this
        exact this.mono HB.out.size)
set_option maxHeartbeats 1000000 in
theorem rtake_nil (most : Int) (x y : Int) (w : World) (hx : wfH (x, y)) (hm : 0 < most) :
    Calls Try.prog 23 #[.slice none 0 0, .int .i64 most, .agg #[.int .i64 x, .int .i64 y]] w fun r w' => ∃ v, r = .returned (.tuple #[v, .bool true]) ∧ RefR w' w.heap.size v [(x, y)] ∧ Below w.heap.size w w' := by
  have hb1 := below_alloc w (robj (x, y))
  have hd1 := heap_alloc_at w (robj (x, y))
  have hm' : ¬ most ≤ 0 := by omega
  generalize hW : w.alloc (robj (x, y)) = w1 at *
  have hh := rholds_any none 0 0 x y [] w1 (RowR.nil _) (by simp) hx
  rw [decide_eq_false (by simp)] at hh
  obtain ⟨d0, d1⟩ := rcells hd1
  have HB := Lib.hid hb1
  have HD := Lib.hid hd1
  clear hb1 hd1
  go_enter Try.func23, Try.ntmps23
  go_wp2_with fail
  refine hh.mono ?_
  clear hh
  rintro r w2 ⟨rfl, hb2⟩
  have HB2 := Lib.hid hb2
  clear d0 d1 hm hm' hW hb2
  go_wp2
  refine wp_loop_rounds 1 ?_
  rw [rounds_succ]
  go_wp2
  refine region_tail 10 (by kernel_rfl) (by kernel_rfl) ?_
  simp only [List.take_succ_cons, List.take_zero, List.drop_succ_cons, List.drop_zero]
  generalize hwd : w2.drew = w3 at *
  have ha : Ali w2 w3 := by rw [← hwd]; exact drew_ali _
  have HB3 := Lib.hid (below_ali HB2.out ha)
  clear hwd ha
  repeat still_step
  refine wpStill_nil ?_
  have hE0 : RefR (w3.alloc (.cells #[] 24)) w1.heap.size (.slice (some ⟨w3.heap.size, 0, none⟩) 0 0) [] := OwnR.empty w3 _ HB3.out.size
  have hbE := HB3.out.alloc HB3.out.size (.cells #[] 24)
  have E0 := Lib.hid hE0
  have HBE := Lib.hid hbE
  clear hE0 hbE
  go_wp2_with (first
    | (at_builtin
       refine wpList_appF (base := w1.heap.size) rfl (.tmp 34) (.tmp 37) rfl rfl rfl E0.out (RowR.nil _) (by simp) HBE.out.size ?_
       intro v5 w5 own5 gr5 _
       have OWN5 := Lib.hid (show RefR w5 w1.heap.size v5 [] from own5)
       have hb5 := HBE.out.trans (grown_below gr5 HBE.out.size E0.out.low)
       have HB5 := Lib.hid hb5
       obtain ⟨f0, f1⟩ := rcells (kb_below HD.out hb5)
       clear own5 gr5 hb5)
    | (at_builtin
       refine wpList_appF (base := w1.heap.size) rfl (.tmp 39) (.tmp 41) rfl rfl rfl (OWN5.out.alloc _) (RowR.one (R := hrec) w5 ((x, y) : Hol) 24 (cs := #[.int .i64 x, .int .i64 y]) rfl) (by simp) (by have := HB5.out.size; simp; omega) ?_
       intro v6 w6 own6 gr6 _
       have OWN6 := Lib.hid (show RefR w6 w1.heap.size v6 [(x, y)] from own6)
       have hb6' := HB5.out.alloc HB5.out.size (robj (x, y))
       have hb6 := hb6'.trans (grown_below gr6 hb6'.size OWN5.out.low)
       have HB6 := Lib.hid hb6
       clear own6 gr6 hb6 hb6' f0 f1)
    | (at_builtin
       refine wpList_appF (base := w1.heap.size) rfl (.tmp 43) (.tmp 46) rfl rfl rfl OWN6.out (RowR.nil _) (by simp) HB6.out.size ?_
       intro v7 w7 own7 gr7 _
       have OWN7 := Lib.hid (show RefR w7 w1.heap.size v7 [(x, y)] from own7)
       have HB7 := Lib.hid (HB6.out.trans (grown_below gr7 HB6.out.size OWN6.out.low))
       clear own7 gr7))
  go_ret2
  exact ⟨_, rfl, OWN7.out.mono HB.out.size, HB.out.trans (HB7.out.mono HB.out.size)⟩
/-- Take of the document, onto holders of the call's own. -/
theorem rtake_yes (base : Nat) (v : Value) (most : Int) (x y : Int) (V : List Hol) (w : World) (own : RefR w base v V) (hwf : ∀ h ∈ V, wfH h) (hx : wfH (x, y)) (hn : V.length ≤ 1000) (hm : (V.length : Int) < most) (hno : (x, y) ∉ V) :
    Calls Try.prog 23 #[v, .int .i64 most, .agg #[.int .i64 x, .int .i64 y]] w fun r w' => ∃ v', r = .returned (.tuple #[v', .bool true]) ∧ RefR w' w.heap.size v' (insH (x, y) V) ∧ Below w.heap.size w w' := by
  rcases own.1.2 with ⟨rfl, h0⟩ | ⟨g, cap, cur, rfl, hb, hg, hnc, hcm, hcs, ht⟩
  · have hV : V = [] := List.eq_nil_of_length_eq_zero h0
    subst hV
    exact rtake_nil most x y w hx (by simpa using hm)
  · have hr := own.row
    exact rtake_some g cap V.length most x y V w hr.1 hr.2.1 hr.2.2 hwf hx hn hm hno
end Go.Proofs.Ytikocninbbkgdaa
