/- Contracts of porpoiseref11: Same, Emit. -/
import Derived.Test.YtgbhkfefdeahdaaRef11
import Derived.Test.YtgbhkfefdeahdaaOutsL
namespace Go.Proofs.Ytgbhkfefdeahdaa
set_option linter.unusedVariables false
open Go.ChangeShapes Go.WideShapes Go.ChangeAt Go.RowKit

set_option maxHeartbeats 1000000 in
theorem rsame_any (A B : Option Addr) (n c m d : Nat) (V U : List Ot) (w : World) (hr : RowR orec w A n V) (hs : RowR orec w B m U) (hwf : ∀ h ∈ V, h.Fits) (hwf' : ∀ h ∈ U, h.Fits) :
    Calls Try.prog 17 #[.slice A n c, .slice B m d] w fun r w' => r = .returned (.bool (decide (V = U))) ∧ Below w.heap.size w w' := by
  have hnm := hr.2.1
  unfold maxLen at hnm
  have HR := Lib.hid hr
  have HS := Lib.hid hs
  have HWF := Lib.hid hwf
  have HWF' := Lib.hid hwf'
  have HL := Lib.hid hr.1
  have HK := Lib.hid hs.1
  clear hr hs hwf hwf'
  by_cases hnm' : n = m
  · subst hnm'
    go_enter Try.func17, Try.ntmps17
    go_wp2
    go_loopg [5] n (fun k v5 wr => ∃ j : Nat, j + k = n ∧ v5 = .int .i64 j ∧ V.take j = U.take j ∧ Below w.heap.size w wr)
    case atStart => exact ⟨0, by omega, rfl, by simp, Below.refl _ _⟩
    case round =>
      obtain ⟨j, hj, rfl, hno, ha⟩ := hrel
      have HJ := Lib.hid hj
      have NO := Lib.hid hno
      have HA := Lib.hid ha
      clear hj hno
      by_cases hlt : j < n
      · have hlt' : (j : Int) < n := by omega
        obtain ⟨b, off, z, rfl, hz, hrg⟩ := (HR.out.later ha).out hlt
        obtain ⟨b', off', u, rfl, hu, hrg'⟩ := (HS.out.later ha).out hlt
        have heq := sameO z u (HWF.out _ (List.mem_of_getElem? hz)) (HWF'.out _ (List.mem_of_getElem? hu))
        have RG := Lib.hid hrg
        have RG' := Lib.hid hrg'
        have HZ := Lib.hid hz
        have HU := Lib.hid hu
        clear hz hu ha hrg hrg'
        by_cases hc : z = u
        · have hdc : decide (z = u) = true := by simp [hc]
          rw [hdc] at heq
          have HC := Lib.hid hc
          clear hc hdc
          go_wp2
          refine wp_region_later (by kernel_rfl) (by kernel_rfl) ?_
          repeat (first
            | (refine wpQuiet_load_out rfl _ rfl b (off + j * 5) rfl z RG.out ?_; simp only [Act.put, List.setIfInBounds_toArray, List.set_cons_zero, List.set_cons_succ])
            | (refine wpQuiet_load_out rfl _ rfl b' (off' + j * 5) rfl u RG'.out ?_; simp only [Act.put, List.setIfInBounds_toArray, List.set_cons_zero, List.set_cons_succ])
            | go_big_quiet_step (fail))
          refine wpQuiet_nil ?_
          rintro _ ⟨⟨w10, b10⟩, rfl⟩
          go_wp2
          go_roundg (n - (j + 1))
          case measure => have := HJ.out; omega
          case rel =>
            refine ⟨j + 1, by omega, by simp, ?_, HA.out.trans (b10.mono HA.out.size)⟩
            rw [take_more HZ.out, take_more HU.out, NO.out, HC.out]
        · have hdc : decide (z = u) = false := by simp [hc]
          rw [hdc] at heq
          have HC := Lib.hid hc
          clear hc hdc
          go_wp2
          refine wp_region_later (by kernel_rfl) (by kernel_rfl) ?_
          repeat (first
            | (refine wpQuiet_load_out rfl _ rfl b (off + j * 5) rfl z RG.out ?_; simp only [Act.put, List.setIfInBounds_toArray, List.set_cons_zero, List.set_cons_succ])
            | (refine wpQuiet_load_out rfl _ rfl b' (off' + j * 5) rfl u RG'.out ?_; simp only [Act.put, List.setIfInBounds_toArray, List.set_cons_zero, List.set_cons_succ])
            | go_big_quiet_step (fail))
          refine wpQuiet_nil ?_
          rintro _ ⟨⟨w10, b10⟩, rfl⟩
          go_wp2
          go_ret
          refine ⟨ret_bool ?_, HA.out.trans (b10.mono HA.out.size)⟩
          have hne : V ≠ U := by
            intro e
            have h1 := HZ.out
            rw [e, HU.out] at h1
            injection h1 with h1
            exact HC.out h1.symm
          simp [hne]
      · have hlt' : ¬ (j : Int) < n := by omega
        clear ha
        go_wp2
        go_ret
        have := NO.out
        rw [List.take_of_length_le (by rw [HL.out]; omega), List.take_of_length_le (by rw [HK.out]; omega)] at this
        exact ⟨ret_bool (by simp [this]), HA.out⟩
  · have hne : ((n : Int) == (m : Int)) = false := by simp; omega
    have hzu : V ≠ U := by intro e; have h1 := HL.out; have h2 := HK.out; rw [e] at h1; omega
    have hd : decide (V = U) = false := by simp [hzu]
    rw [hd]
    go_enter Try.func17, Try.ntmps17
    go_wp2
    go_ret
    exact ⟨rfl, Below.refl _ _⟩

set_option maxRecDepth 100000 in
set_option maxHeartbeats 2000000 in
theorem remit_any (base : Nat) (v : Value) (x : Ot) (V : List Ot) (w : World) (own : OutR w base v V) (hbase : base ≤ w.heap.size) (hx : x.Fits) (hl : V.length ≤ 1000) :
    Calls Try.prog 12 #[v, .agg (aggV x.vals)] w fun r w' => ∃ v', r = .returned (.tuple #[v', .bool (adds V x)]) ∧ OutR w' base v' (emit V x) ∧ Below w.heap.size w w' ∧ (v' = v ∨ ∀ j, v'.ownBlock = some j → w.heap.size ≤ j) := by
  obtain ⟨g, hg⟩ : ∃ g, w.heap.size = g := ⟨_, rfl⟩
  obtain ⟨fs, hu⟩ := undO
  obtain ⟨A, n, c, hv, hrow, hn, hnc, hcm⟩ := own.row'
  subst hv
  have HU := Lib.hid hu
  have OW := Lib.hid own
  have HR := Lib.hid hrow
  have HMY := Lib.hid (rmay_any x)
  have NL : Hid (n ≤ 1000) := Lib.hid (by have := hn.out; omega)
  clear hu own hrow hnc hcm hn
  cases hh : hasL V x.id
  · cases hm : x.may
    · have ha : adds V x = false := by simp [adds, hm]
      rw [ha, emit_no ha]
      have HH := Lib.hid hh
      have HM := Lib.hid hm
      clear hh hm ha
      go_enter Try.func12, Try.ntmps12
      go_wp2_with (first
        | (refine wpList_box_agg rfl 29 _ rfl g hg x.vals rfl ?_; intro w1 h1 l1 t1; have H1 := Lib.hid h1; have L1 : Hid (Below w.heap.size w w1) := Lib.hid (by rw [hg]; exact l1); obtain ⟨d0, _, _, _, _⟩ := cellsO h1; clear h1 l1 t1)
        | (go_at_call 14; refine (rof_any A n c x.id V w1 (HR.out.later L1.out)).mono ?_; rw [HH.out]; rintro r w2 ⟨rfl, b2⟩;
           have L2 := Lib.hid (L1.out.trans (b2.mono L1.out.size)); have H2 := Lib.hid (kb_below H1.out b2); clear b2; obtain ⟨g2, hg2⟩ : ∃ g2, w2.heap.size = g2 := ⟨_, rfl⟩)
        | (refine wpList_alloc_agg rfl 29 rfl g2 hg2 Ot.zero.vals (allocO _) ?_; intro w3 h3 l3 t3; have H3 := Lib.hid h3; have L3 : Hid (Below w2.heap.size w2 w3) := Lib.hid (by rw [hg2]; exact l3); clear h3 l3 t3)
        | (refine wpList_store_agg rfl 29 _ _ rfl g2 Ot.zero.vals (ofL V x.id).vals rfl rfl ?hz rfl (sizeO _) (Ot.ones_vals _) ?_; (case hz => exact H3.out); intro w4 h4 f4 t4;
           have b4 : Below w2.heap.size w2 w4 := L3.out.trans (f4.below L3.out.size (fun j hj e => by omega));
           have L4 := Lib.hid (L2.out.trans (b4.mono L2.out.size)); have H4 := Lib.hid (kb_below H2.out b4); clear h4 f4 t4 b4)
        | (refine wpList_load_aggG rfl 29 _ rfl g rfl x.vals H4.out _ HU.out rfl (sizeO _) ?_)
        | (go_at_call 16; refine (HMY.out w4).mono ?_; rw [HM.out]; rintro r w5 ⟨rfl, b5⟩; have L5 := Lib.hid (L4.out.trans (b5.mono L4.out.size)); clear b5))
      go_ret2
      have L5' : Below w.heap.size w w5 := L5.out
      exact ⟨_, rfl, OW.out.below L5', by first | exact L5' | (rw [← hg]; exact L5'), .inl rfl⟩
    · have ha : adds V x = true := by simp [adds, hm, hh]
      have hsz : (aggV x.vals).size = 5 := rfl
      rw [ha, emit_yes ha]
      have HH := Lib.hid hh
      have HM := Lib.hid hm
      clear hh hm ha
      go_enter Try.func12, Try.ntmps12
      go_wp2_with (first
        | (refine wpList_box_agg rfl 29 _ rfl g hg x.vals rfl ?_; intro w1 h1 l1 t1; have H1 := Lib.hid h1; have L1 : Hid (Below w.heap.size w w1) := Lib.hid (by rw [hg]; exact l1); obtain ⟨d0, _, _, _, _⟩ := cellsO h1; clear h1 l1 t1)
        | (go_at_call 14; refine (rof_any A n c x.id V w1 (HR.out.later L1.out)).mono ?_; rw [HH.out]; rintro r w2 ⟨rfl, b2⟩;
           have L2 := Lib.hid (L1.out.trans (b2.mono L1.out.size)); have H2 := Lib.hid (kb_below H1.out b2); clear b2; obtain ⟨g2, hg2⟩ : ∃ g2, w2.heap.size = g2 := ⟨_, rfl⟩)
        | (refine wpList_alloc_agg rfl 29 rfl g2 hg2 Ot.zero.vals (allocO _) ?_; intro w3 h3 l3 t3; have H3 := Lib.hid h3; have L3 : Hid (Below w2.heap.size w2 w3) := Lib.hid (by rw [hg2]; exact l3); clear h3 l3 t3)
        | (refine wpList_store_agg rfl 29 _ _ rfl g2 Ot.zero.vals (ofL V x.id).vals rfl rfl ?hz rfl (sizeO _) (Ot.ones_vals _) ?_; (case hz => exact H3.out); intro w4 h4 f4 t4;
           have b4 : Below w2.heap.size w2 w4 := L3.out.trans (f4.below L3.out.size (fun j hj e => by omega));
           have L4 := Lib.hid (L2.out.trans (b4.mono L2.out.size)); have H4 := Lib.hid (kb_below H2.out b4); clear h4 f4 t4 b4)
        | (refine wpList_load_aggG rfl 29 _ rfl g rfl x.vals H4.out _ HU.out rfl (sizeO _) ?_)
        | (go_at_call 16; refine (HMY.out w4).mono ?_; rw [HM.out]; rintro r w5 ⟨rfl, b5⟩; have L5 := Lib.hid (L4.out.trans (b5.mono L4.out.size)); have H5 := Lib.hid (kb_below H4.out b5);
           have E5 : Hid (OutR (w5.alloc (.cells #[] 29)) w5.heap.size (.slice (some ⟨w5.heap.size, 0, none⟩) 0 0) ([] : List Ot)) := Lib.hid (OwnR.empty w5 _ (Nat.le_refl _));
           have R5 := Lib.hid (HR.out.later (L5.out.alloc L5.out.size (.cells #[] 29)));
           clear b5)
        | (at_builtin;
           refine wpList_appO (base := w5.heap.size) rfl (.tmp 23) (.tmp 24) rfl rfl rfl E5.out R5.out (by have := NL.out; simp; omega) (by simp) ?_;
           intro v6 w6 own6 gr6 _;
           have b6 := grown_low gr6 (by simp) E5.out.low;
           have b6' : Below w5.heap.size w5 w6 := ((Below.refl _ _).alloc (Nat.le_refl _) _).trans b6;
           have O6 : Hid (OutR w6 w5.heap.size v6 V) := Lib.hid own6; have B6 := Lib.hid b6'; have H6 := Lib.hid (kb_below H5.out b6');
           clear own6 gr6 b6 b6' E5 R5)
        | (refine wpList_load_agg rfl 29 _ rfl g rfl x.vals ?hy _ HU.out rfl (sizeO _) ?_; (case hy => exact H6.out))
        | (at_builtin;
           refine wpList_appO (base := w5.heap.size) rfl (.tmp 26) (.tmp 28) rfl rfl rfl (O6.out.alloc _) (RowR.one (R := orec) w6 x 29 (cs := aggV x.vals) rfl) (by omega) (by have := B6.out.size; simp; omega) ?_;
           intro v7 w7 own7 gr7 _;
           have b7 := grown_low gr7 (by have := B6.out.size; simp; omega) O6.out.low;
           have b7' : Below w5.heap.size w5 w7 := (B6.out.alloc B6.out.size _).trans b7;
           have O7 := Lib.hid own7; have B7 := Lib.hid b7';
           clear own7 gr7 b7 b7'))
      go_ret2
      have L7 : Below w.heap.size w w7 := L5.out.trans (B7.out.mono L5.out.size)
      refine ⟨_, rfl, O7.out.mono (Nat.le_trans hbase L5.out.size), by first | exact L7 | (rw [← hg]; exact L7), .inr fun j hj => ?_⟩
      have := O7.out.low j hj
      have := L5.out.size
      omega
  · have ha : adds V x = false := by simp [adds, hh]
    rw [ha, emit_no ha]
    have HH := Lib.hid hh
    clear hh ha
    go_enter Try.func12, Try.ntmps12
    go_wp2_with (first
      | (refine wpList_box_agg rfl 29 _ rfl g hg x.vals rfl ?_; intro w1 h1 l1 t1; have L1 : Hid (Below w.heap.size w w1) := Lib.hid (by rw [hg]; exact l1); obtain ⟨d0, _, _, _, _⟩ := cellsO h1; clear h1 l1 t1)
      | (go_at_call 14; refine (rof_any A n c x.id V w1 (HR.out.later L1.out)).mono ?_; rw [HH.out]; rintro r w2 ⟨rfl, b2⟩;
         have L2 := Lib.hid (L1.out.trans (b2.mono L1.out.size)); clear b2; obtain ⟨g2, hg2⟩ : ∃ g2, w2.heap.size = g2 := ⟨_, rfl⟩)
      | (refine wpList_alloc_agg rfl 29 rfl g2 hg2 Ot.zero.vals (allocO _) ?_; intro w3 h3 l3 t3; have H3 := Lib.hid h3; have L3 : Hid (Below w2.heap.size w2 w3) := Lib.hid (by rw [hg2]; exact l3); clear h3 l3 t3)
      | (refine wpList_store_agg rfl 29 _ _ rfl g2 Ot.zero.vals (ofL V x.id).vals rfl rfl ?hz rfl (sizeO _) (Ot.ones_vals _) ?_; (case hz => exact H3.out); intro w4 h4 f4 t4;
         have b4 : Below w2.heap.size w2 w4 := L3.out.trans (f4.below L3.out.size (fun j hj e => by omega));
         have L4 := Lib.hid (L2.out.trans (b4.mono L2.out.size)); clear h4 f4 t4 b4))
    go_ret2
    have L4' : Below w.heap.size w w4 := L4.out
    exact ⟨_, rfl, OW.out.below L4', by first | exact L4' | (rw [← hg]; exact L4'), .inl rfl⟩
end Go.Proofs.Ytgbhkfefdeahdaa
