/- Contracts of porpoiseref07: Top, Percentile; porpoiseref06's May; hist.New of what may not be. -/
import Derived.Test.YtpheifdneafkhaaLaw07
namespace Go.Proofs.Ytpheifdneafkhaa
set_option linter.unusedVariables false
open Go.ChangeShapes Go.WideShapes Go.ChangeAt Go.RowKit

set_option maxHeartbeats 400000 in
theorem rtop_any (bin : Int) (w : World) (h : -9223372036854775808 ≤ bin) (h' : bin ≤ 9223372036854775807) :
    Calls Try.prog 13 #[.int .i64 bin] w fun e w' => e = .returned (.int .u64 (topS bin)) ∧ w = w' := by
  obtain ⟨b, hb⟩ : ∃ b : Nat, (if bin < 0 then 0 else if 64 < bin then 64 else bin.toNat) = b := ⟨_, rfl⟩
  have hb64 : b ≤ 64 ∧ ∀ i : Nat, i ≤ b → ((i : Int) < bin ∧ (i : Int) < 64 ↔ i < b) := by
    rw [← hb]; split
    · exact ⟨by omega, fun i hi => by omega⟩
    · split
      · exact ⟨by omega, fun i hi => by omega⟩
      · exact ⟨by omega, fun i hi => by omega⟩
  have HT : Hid (topS bin = topN b) := Lib.hid (by unfold topS; rw [hb])
  have HB := Lib.hid hb64
  clear hb hb64
  go_enter Try.func13, Try.ntmps13
  go_wp2
  go_loop [3, 4] (fun v3 v4 => ∃ i : Nat, i ≤ b ∧ v4 = .int .i64 i ∧ v3 = .int .u64 (topN i)) (fun _ v4 => b - (intOf v4).toNat)
  case atStart => exact ⟨0, by omega, rfl, rfl⟩
  case round =>
    obtain ⟨i, hi, rfl, rfl⟩ := hrel
    have hb := HB.out
    have hiff := hb.2 i hi
    have hbd := topN_bd (show i ≤ 64 by omega)
    by_cases hlt : i < b
    · obtain ⟨h1, h2⟩ := hiff.2 hlt
      have hs := topN_step i
      have hbd1 := topN_bd (show i + 1 ≤ 64 by omega)
      rw [hs] at hbd1
      have HS := Lib.hid hs
      generalize topN i = P0 at *
      clear hiff hs hb
      go_wp2
      go_round
      case rel => exact ⟨i + 1, by omega, by go_num, by rw [HS.out]⟩
      case measure => simp [intOf]; omega
    · obtain rfl : i = b := by omega
      have hno : ¬ ((i : Int) < bin ∧ (i : Int) < 64) := fun h => hlt (hiff.1 h)
      have HTI := Lib.hid HT.out.symm
      generalize topN i = P0 at *
      clear hb hiff
      by_cases h1 : (i : Int) < bin
      · have h2 : ¬ (i : Int) < 64 := fun h => hno ⟨h1, h⟩
        clear hno
        go_wp2
        go_ret
        exact ⟨ret_int HTI.out, rfl⟩
      · clear hno
        go_wp2
        go_ret
        exact ⟨ret_int HTI.out, rfl⟩

theorem fold_ge (l : List Int) (h : ∀ n ∈ l, 0 ≤ n) : ∀ s, 0 ≤ s → s ≤ 18446744073709551615 → s ≤ l.foldl addS s := by
  induction l with
  | nil => intro s _ _; exact Int.le_refl _
  | cons n l ih =>
    intro s h1 h2
    have hn := h n (by simp)
    have hb := addS_bd h1 hn
    have := ih (fun m hm => h m (by simp [hm])) _ hb.1 hb.2
    have h3 : s ≤ addS s n := by unfold addS; split <;> omega
    exact Int.le_trans h3 this
theorem sum_part (A : List Int) (h : ∀ n ∈ A, 0 ≤ n) (i : Nat) : sumS (A.take i) ≤ sumS A := by
  have hb := sumS_bd (A.take i) (fun n hn => h n (List.mem_of_mem_take hn))
  have := fold_ge (A.drop i) (fun n hn => h n (List.mem_of_mem_drop hn)) (sumS (A.take i)) hb.1 hb.2
  have e : sumS A = (A.drop i).foldl addS (sumS (A.take i)) := by
    unfold sumS
    rw [← List.foldl_append, List.take_append_drop]
  rw [e]; exact this
/-- As the document has it: of something, the part alone. -/
theorem okP_ref {A : List Int} {p : Int} (h : 0 < sumS A) (hp : 1 ≤ p) (hA : ∀ n ∈ A, 0 ≤ n) (i : Nat) : okP A p i = partB (sumS (A.take (i + 1))) (sumS A) p := by
  have hb := sumS_bd (A.take (i + 1)) (fun n hn => hA n (List.mem_of_mem_take hn))
  unfold okP
  by_cases h0 : 0 < sumS (A.take (i + 1))
  · simp [h0]
  · have e : sumS (A.take (i + 1)) = 0 := by omega
    have : partB 0 (sumS A) p = false := by
      unfold partB
      rw [if_neg (by omega), decide_eq_false_iff_not]
      have := Int.mul_le_mul hp (Int.le_refl (sumS A)) (by omega) (by omega)
      omega
    rw [e, this]; simp
theorem pct_zero {A : List Int} {p : Int} (h : ¬ 0 < sumS A) (hA : ∀ n ∈ A, 0 ≤ n) : pctN A p = none := pctN_none fun j _ => by
  have := sum_part A hA (j + 1)
  unfold okP
  rw [decide_eq_false (by omega)]; rfl

set_option maxRecDepth 100000 in
set_option maxHeartbeats 1000000 in
theorem rpct_any (A : List Int) (percent : Int) (w : World) (hA : Ok65 A) (hp : -9223372036854775808 ≤ percent) (hp' : percent ≤ 9223372036854775807) :
    Calls Try.prog 22 #[.agg (arrU A), .int .i64 percent] w fun r w' => r = .returned (.tuple #[.int .u64 (pctX A (clampP percent)), .bool (pctB A (clampP percent))]) ∧ Below w.heap.size w w' := by
  obtain ⟨m, hm⟩ : ∃ m, clampP percent = m := ⟨_, rfl⟩
  have hmb : 1 ≤ m ∧ m ≤ 100 := by rw [← hm]; exact clampP_bd _
  rw [hm]
  obtain ⟨m1, hmx⟩ : ∃ m1, (if percent < 1 then (1 : Int) else percent) = m1 := ⟨_, rfl⟩
  have hmn : (if (100 : Int) < m1 then (100 : Int) else m1) = m := by rw [← hm, ← hmx]; unfold clampP; split <;> simp
  have hm1b : 1 ≤ m1 ∧ m1 ≤ 9223372036854775807 := by rw [← hmx]; split <;> omega
  have HA := Lib.hid hA
  obtain ⟨g, hG⟩ : ∃ g, w.heap.size = g := ⟨_, rfl⟩
  have HG := Lib.hid hG
  clear hm hA hG
  go_enter Try.func22, Try.ntmps22
  go_wp2_with (refine wpList_box_arr rfl 42 (.tmp 0) rfl g HG.out A rfl ?_; rintro w3 K1 B3 S3)
  have hrow : Row .u64 w3 (some ⟨g, 0, none⟩) 65 A := by have := aobj_row K1 (by rw [HA.out.1]; decide) HA.out.2; rwa [HA.out.1] at this
  refine (rsum_any (some ⟨g, 0, none⟩) 65 65 A w3 hrow).mono ?_
  rintro e w4 ⟨rfl, rfl⟩
  have hb3 : Below w.heap.size w w3 := by rw [HG.out]; exact B3
  have HB3 := Lib.hid hb3
  have K := Lib.hid K1
  rw [List.take_of_length_le (by rw [HA.out.1]; exact Nat.le_refl _)]
  have hnn : ∀ n ∈ A, 0 ≤ n := fun n hn => (HA.out.2 n hn).1
  have hbd : ∀ i, 0 ≤ sumS (A.take i) ∧ sumS (A.take i) ≤ 18446744073709551615 := fun i => sumS_bd _ (fun n hn => (HA.out.2 n (List.mem_of_mem_take hn)).1)
  have hwb := sumS_bd A hnn
  have hsn : ∀ i, i < 65 → sumS (A.take (i + 1)) = addS (sumS (A.take i)) (A.getD i 0) := fun i hi => sumS_snoc A i (by rw [HA.out.1]; exact hi)
  by_cases hW0 : 0 < sumS A
  · have hok : ∀ i, okP A m i = partB (sumS (A.take (i + 1))) (sumS A) m := okP_ref hW0 hmb.1 hnn
    generalize sumS A = W at *
    have HBD := Lib.hid hbd
    have HSN := Lib.hid hsn
    have HOK := Lib.hid hok
    clear hrow hb3 K1 B3 S3 hbd hsn hok hnn
    go_wp2
    go_loop [9, 8] (fun v9 v8 => ∃ i : Nat, i ≤ 65 ∧ v9 = .int .i64 i ∧ v8 = .int .u64 (sumS (A.take i)) ∧ ∀ j, j < i → okP A m j = false) (fun v9 _ => 65 - (intOf v9).toNat)
    case atStart => exact ⟨0, by omega, rfl, rfl, fun j hj => by omega⟩
    case round =>
      obtain ⟨i, hi, rfl, rfl, hno⟩ := hrel
      have HNO := Lib.hid hno
      clear hno
      by_cases hlt : i < 65
      · have hlt' : (i : Int) < 65 := by omega
        obtain ⟨z, hz⟩ : ∃ z, A.getD i 0 = z := ⟨_, rfl⟩
        have hAi : A[i]? = some z := by
          rw [List.getD_eq_getElem?_getD] at hz
          rw [List.getElem?_eq_getElem (by rw [HA.out.1]; exact hlt)] at hz ⊢
          exact congrArg some hz
        have hzb := HA.out.2 z (List.mem_of_getElem? hAi)
        have hcell := aobj_cell K.out hAi
        have hs := HSN.out i hlt
        have hb0 := HBD.out i
        have hb1 := HBD.out (i + 1)
        have ho := HOK.out i
        rw [hs] at ho hb1
        have HS := Lib.hid hs
        rw [hz] at ho hb1
        have HZ := Lib.hid hz
        have ha := fun v => radd_any (sumS (A.take i)) z v hb0.1 hzb.1 hb0.2 hzb.2
        generalize hp0 : sumS (A.take i) = P0 at *
        have HP0 := Lib.hid hp0
        generalize hp1 : addS P0 z = P1 at *
        have HP1 := Lib.hid hp1
        have HO := Lib.hid ho
        have ht := fun v => rtop_any (i : Int) v (by omega) (by omega)
        rw [topS_nat (show i ≤ 64 by omega)] at ht
        have hat := fun v => ratLeast_any P1 W m v hb1.1 hwb.1 hb1.2 hwb.2 (by omega) (by omega)
        clear hz hs ho hp0 hp1 hAi
        cases hB : partB P1 W m with
        | true =>
          rw [hB] at hat
          have hk : Hid (pctN A m = some i) := Lib.hid (pctN_some hlt (by rw [HO.out, hB]) HNO.out)
          clear hB
          go_wp2_with (first
            | (go_at_call 31; refine (ha _).mono ?_; rintro e w5 ⟨rfl, rfl⟩)
            | (go_at_call 32; refine (hat _).mono ?_; rintro e w5 ⟨rfl, rfl⟩)
            | (go_at_call 13; refine (ht _).mono ?_; rintro e w5 ⟨rfl, rfl⟩))
          go_ret2
          refine ⟨?_, HB3.out⟩
          unfold pctX pctB
          rw [hk.out]
          rfl
        | false =>
          rw [hB] at hat
          have hk : Hid (okP A m i = false) := Lib.hid (by rw [HO.out, hB])
          clear hB
          go_wp2_with (first
            | (go_at_call 31; refine (ha _).mono ?_; rintro e w5 ⟨rfl, rfl⟩)
            | (go_at_call 32; refine (hat _).mono ?_; rintro e w5 ⟨rfl, rfl⟩))
          go_round
          case rel => exact ⟨i + 1, by omega, by go_num, by rw [HS.out, HZ.out, HP1.out], fun j hj => if e : j = i then by rw [e]; exact hk.out else HNO.out j (by omega)⟩
          case measure => simp [intOf]; omega
      · have hlt' : ¬ (i : Int) < 65 := by omega
        obtain rfl : i = 65 := by omega
        have hk : Hid (pctN A m = none) := Lib.hid (pctN_none HNO.out)
        go_wp2
        go_ret2
        refine ⟨?_, HB3.out⟩
        unfold pctX pctB
        rw [hk.out]
        rfl
  · have hk : Hid (pctN A m = none) := Lib.hid (pct_zero hW0 hnn)
    have hWz : sumS A = 0 := by omega
    rw [hWz]
    clear hrow hb3 K1 B3 S3 hbd hsn hnn hWz hwb hW0
    go_wp2
    refine wp_loop_rounds 1 ?_
    rw [rounds_succ]
    go_wp2
    go_ret2
    refine ⟨?_, HB3.out⟩
    unfold pctX pctB
    rw [hk.out]
    rfl

set_option maxHeartbeats 400000 in
theorem may_any (B W : Int) (w : World) : Calls Try.prog 19 #[.int .i64 B, .int .u64 W] w fun r w' => r = .returned (.bool (decide (1 ≤ B ∧ B ≤ 8 ∧ 1 ≤ W ∧ W ≤ 1099511627776))) ∧ w = w' := by
  by_cases h1 : 1 ≤ B
  · by_cases h2 : B ≤ 8
    · by_cases h3 : 1 ≤ W
      · by_cases h4 : W ≤ 1099511627776
        · have e : Hid (decide (1 ≤ B ∧ B ≤ 8 ∧ 1 ≤ W ∧ W ≤ 1099511627776) = true) := Lib.hid (by simp; omega)
          rw [e.out]
          go_enter Try.func19, Try.ntmps19
          go_wp2
          go_ret
          exact ⟨rfl, rfl⟩
        · have e : Hid (decide (1 ≤ B ∧ B ≤ 8 ∧ 1 ≤ W ∧ W ≤ 1099511627776) = false) := Lib.hid (by simp; omega)
          rw [e.out]
          go_enter Try.func19, Try.ntmps19
          go_wp2
          go_ret
          exact ⟨rfl, rfl⟩
      · have e : Hid (decide (1 ≤ B ∧ B ≤ 8 ∧ 1 ≤ W ∧ W ≤ 1099511627776) = false) := Lib.hid (by simp; omega)
        rw [e.out]
        go_enter Try.func19, Try.ntmps19
        go_wp2
        go_ret
        exact ⟨rfl, rfl⟩
    · have e : Hid (decide (1 ≤ B ∧ B ≤ 8 ∧ 1 ≤ W ∧ W ≤ 1099511627776) = false) := Lib.hid (by simp; omega)
      rw [e.out]
      go_enter Try.func19, Try.ntmps19
      go_wp2
      go_ret
      exact ⟨rfl, rfl⟩
  · have e : Hid (decide (1 ≤ B ∧ B ≤ 8 ∧ 1 ≤ W ∧ W ≤ 1099511627776) = false) := Lib.hid (by simp; omega)
    rw [e.out]
    go_enter Try.func19, Try.ntmps19
    go_wp2
    go_ret
    exact ⟨rfl, rfl⟩

set_option maxHeartbeats 400000 in
theorem hnew_bad (B W : Int) (w : World) (h : ¬ (1 ≤ B ∧ B ≤ 8 ∧ 1 ≤ W ∧ W ≤ 1099511627776)) : Calls Try.prog 16 #[.int .i64 B, .int .u64 W] w fun r w' => r = .returned (.pointer none) ∧ w' = w := by
  by_cases h1 : B < 1
  · go_enter Try.func16, Try.ntmps16
    go_wp2
    go_ret
    exact ⟨rfl, rfl⟩
  · by_cases h2 : 8 < B
    · go_enter Try.func16, Try.ntmps16
      go_wp2
      go_ret
      exact ⟨rfl, rfl⟩
    · by_cases h3 : W < 1
      · go_enter Try.func16, Try.ntmps16
        go_wp2
        go_ret
        exact ⟨rfl, rfl⟩
      · have h4 : 1099511627776 < W := by omega
        go_enter Try.func16, Try.ntmps16
        go_wp2
        go_ret
        exact ⟨rfl, rfl⟩
end Go.Proofs.Ytpheifdneafkhaa
