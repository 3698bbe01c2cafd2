/- What is proved: HistBins of porpoiselaw07 answers true for every input, and leaves its arguments as they were; conditions: those of the given row alone. -/
import Derived.Test.YtpheifdneafkhaaKit
import Derived.Test.YtpheifdneafkhaaRef07
namespace Go.Proofs.Ytpheifdneafkhaa.histBins
open Go.ChangeShapes Go.WideShapes Go.ChangeAt Go.RowKit Go.Deep
open Go.ChangeMaps (open_string shut_string)
set_option linter.unusedVariables false

theorem own : ownKnob Try.prog.godebug = none := by kernel_rfl
theorem laidOut : laidOutB Try.prog = true := by kernel_rfl

theorem below_top (x : Int) (h : 0 ≤ x) (h' : x ≤ 18446744073709551615) (k : Nat) (hk : lenS x = k) : x ≤ topS k ∧ (k ≠ 0 → topS ((k : Int) - 1) < x) := by
  obtain ⟨n, rfl⟩ := Int.eq_ofNat_of_zero_le h
  have hk64 : k ≤ 64 := by have := lenS_bd h h'; omega
  have hn : lenN n = k := by unfold lenS at hk; simp at hk; omega
  refine ⟨?_, fun h0 => ?_⟩
  · rw [topS_nat hk64]; exact topN_ge.2 (by omega)
  · rw [show (k : Int) - 1 = ((k - 1 : Nat) : Int) by omega, topS_nat (by omega)]
    have := (topN_ge (n := n) (k := k - 1))
    have hne : ¬ lenN n ≤ k - 1 := by omega
    have : ¬ (n : Int) ≤ topN (k - 1) := fun hc => hne (this.1 hc)
    omega
theorem top_rises (b : Int) (h : 0 ≤ b) (h' : b ≤ 63) : topS b < topS (b + 1) := by
  obtain ⟨n, rfl⟩ := Int.eq_ofNat_of_zero_le h
  rw [topS_nat (by omega), show ((n : Int) + 1) = ((n + 1 : Nat) : Int) by omega, topS_nat (by omega)]
  exact topN_lt (by omega)
theorem topS_bd (b : Int) : 0 ≤ topS b ∧ topS b ≤ 18446744073709551615 := topN_bd (by split <;> (try split) <;> omega)

set_option maxRecDepth 100000 in
set_option maxHeartbeats 2000000 in
theorem walk (w : World) (a0 : Int) (w0 : (Lit.int .u64 a0).wf = true) (a1 : Int) (w1 : (Lit.int .i64 a1).wf = true) :
    Calls Try.prog 4 #[.int .u64 a0, .int .i64 a1] w fun e w' => e = .returned (.bool true) ∧ Below w.heap.size w w' := by
  have b0 := wf_u64 w0
  have b1 := bounds_i64 w1
  obtain ⟨k, hk⟩ : ∃ k : Nat, lenS a0 = k := ⟨(lenS a0).toNat, by have := lenS_bd b0.1 b0.2; omega⟩
  have hk64 : k ≤ 64 := by have := lenS_bd b0.1 b0.2; omega
  obtain ⟨h1, h2⟩ := below_top a0 b0.1 b0.2 k hk
  have t1 := topS_bd k
  have t2 := topS_bd ((k : Int) - 1)
  have t3 := topS_bd a1
  have t4 := topS_bd (a1 + 1)
  have h3 := top_rises a1
  have HK := Lib.hid hk
  have H2 := Lib.hid h2
  have H3 := Lib.hid h3
  clear w0 w1 hk h2 h3
  have hbn := fun v => bin_any a0 v b0.1 b0.2
  rw [HK.out] at hbn
  by_cases hk0 : k = 0
  · have hk0' : ((k : Int) == 0) = true := by simp; omega
    clear hk0
    by_cases ha : a1 < 0
    · go_enter Try.func4, Try.ntmps4
      go_wp2_with (first
        | (go_at_call 10; refine (awake_any _).mono ?_; rintro r wa ⟨rfl, hba⟩; have HA := Lib.hid hba; clear hba)
        | (go_at_call 11; refine (hbn _).mono ?_; rintro r w7 ⟨rfl, rfl⟩)
        | (go_at_call 12; refine (top_any _ _ (by omega) (by omega)).mono ?_; rintro r w7 ⟨rfl, rfl⟩)
        | (go_at_call 13; refine (rtop_any _ _ (by omega) (by omega)).mono ?_; rintro r w7 ⟨rfl, rfl⟩))
      go_ret
      exact ⟨rfl, HA.out⟩
    · by_cases hb : 63 < a1
      · go_enter Try.func4, Try.ntmps4
        go_wp2_with (first
          | (go_at_call 10; refine (awake_any _).mono ?_; rintro r wa ⟨rfl, hba⟩; have HA := Lib.hid hba; clear hba)
          | (go_at_call 11; refine (hbn _).mono ?_; rintro r w7 ⟨rfl, rfl⟩)
          | (go_at_call 12; refine (top_any _ _ (by omega) (by omega)).mono ?_; rintro r w7 ⟨rfl, rfl⟩)
          | (go_at_call 13; refine (rtop_any _ _ (by omega) (by omega)).mono ?_; rintro r w7 ⟨rfl, rfl⟩))
        go_ret
        exact ⟨rfl, HA.out⟩
      · have h3 := H3.out (by omega) (by omega)
        go_enter Try.func4, Try.ntmps4
        go_wp2_with (first
          | (go_at_call 10; refine (awake_any _).mono ?_; rintro r wa ⟨rfl, hba⟩; have HA := Lib.hid hba; clear hba)
          | (go_at_call 11; refine (hbn _).mono ?_; rintro r w7 ⟨rfl, rfl⟩)
          | (go_at_call 12; refine (top_any _ _ (by omega) (by omega)).mono ?_; rintro r w7 ⟨rfl, rfl⟩)
          | (go_at_call 13; refine (rtop_any _ _ (by omega) (by omega)).mono ?_; rintro r w7 ⟨rfl, rfl⟩))
        go_ret
        exact ⟨rfl, HA.out⟩
  · have hk0' : ((k : Int) == 0) = false := by simp; omega
    have h2 := H2.out hk0
    clear hk0
    by_cases ha : a1 < 0
    · go_enter Try.func4, Try.ntmps4
      go_wp2_with (first
        | (go_at_call 10; refine (awake_any _).mono ?_; rintro r wa ⟨rfl, hba⟩; have HA := Lib.hid hba; clear hba)
        | (go_at_call 11; refine (hbn _).mono ?_; rintro r w7 ⟨rfl, rfl⟩)
        | (go_at_call 12; refine (top_any _ _ (by omega) (by omega)).mono ?_; rintro r w7 ⟨rfl, rfl⟩)
        | (go_at_call 13; refine (rtop_any _ _ (by omega) (by omega)).mono ?_; rintro r w7 ⟨rfl, rfl⟩))
      go_ret
      exact ⟨rfl, HA.out⟩
    · by_cases hb : 63 < a1
      · go_enter Try.func4, Try.ntmps4
        go_wp2_with (first
          | (go_at_call 10; refine (awake_any _).mono ?_; rintro r wa ⟨rfl, hba⟩; have HA := Lib.hid hba; clear hba)
          | (go_at_call 11; refine (hbn _).mono ?_; rintro r w7 ⟨rfl, rfl⟩)
          | (go_at_call 12; refine (top_any _ _ (by omega) (by omega)).mono ?_; rintro r w7 ⟨rfl, rfl⟩)
          | (go_at_call 13; refine (rtop_any _ _ (by omega) (by omega)).mono ?_; rintro r w7 ⟨rfl, rfl⟩))
        go_ret
        exact ⟨rfl, HA.out⟩
      · have h3 := H3.out (by omega) (by omega)
        go_enter Try.func4, Try.ntmps4
        go_wp2_with (first
          | (go_at_call 10; refine (awake_any _).mono ?_; rintro r wa ⟨rfl, hba⟩; have HA := Lib.hid hba; clear hba)
          | (go_at_call 11; refine (hbn _).mono ?_; rintro r w7 ⟨rfl, rfl⟩)
          | (go_at_call 12; refine (top_any _ _ (by omega) (by omega)).mono ?_; rintro r w7 ⟨rfl, rfl⟩)
          | (go_at_call 13; refine (rtop_any _ _ (by omega) (by omega)).mono ?_; rintro r w7 ⟨rfl, rfl⟩))
        go_ret
        exact ⟨rfl, HA.out⟩

set_option maxRecDepth 100000 in
theorem lifted (os : Os) (started : os.Started) (H : Type) (enc : TypeId × Value → H) :
    ReturnsInHanded {} Try.checked os 4 .any (Rows.histBinsSpec.pre6 enc Try.prog Try.f4 Rows.histBinsRow.domain false) (Rows.histBinsSpec.post enc Try.prog Try.f4 false true false false) := by
  refine returnsInHanded_of_change_sized (C := Try.checked) own started (by kernel_rfl) Try.func4
    (ChangeSpec.witness6 (enc := enc) (C := Try.checked) false ⟨#[], #[.int .u64 0, .int .i64 0], []⟩ 8 (by kernel_rfl) (by kernel_rfl) (by kernel_rfl) (by kernel_rfl)) ?_
  intro W base args ds gs before hval0 hW hcnd hsz0 _
  have hval : ∀ (j : Nat) t v, Try.f4.params[j]? = some t → args[j]? = some v → Value.okWide Try.prog W .any base t v := hval0
  have hsz : (DataW.weightsEach Try.prog (Try.f4.params.toList ++ Rows.histBinsSpec.plain.varTypes Try.prog) (ds ++ gs)).all (· ≤ reachBytes) = true := hsz0
  have hW' := hW
  obtain ⟨p, q, hA0, hV, rfl, hfz, hnd⟩ := hW
  have hA : DataW.TrodAll enc Try.prog W 0 (fun _ => true) true Try.f4.params.toList args.toList ds p := hA0
  rw [Try.params4] at hA hval hsz
  have hAk := hA
  obtain ⟨v0, vs0, d0, ds0, p0, q0, hargs, rfl, rfl, h0, r0⟩ := trodAll_cons hA
  obtain ⟨v1, vs1, d1, ds1, p1, q1, rfl, rfl, rfl, h1, r1⟩ := trodAll_cons r0
  obtain ⟨rfl, rfl, rfl⟩ := trodAll_nil r1
  obtain rfl : args = #[v0, v1] := by cases args; simp_all
  obtain ⟨rfl, rfl⟩ := trodVars_none hV
  obtain ⟨a0, rfl, rfl, rfl, w0⟩ := open_int Try.underlying22 (hval 0 22 v0 rfl rfl) h0
  obtain ⟨a1, rfl, rfl, rfl, w1⟩ := open_int Try.underlying3 (hval 1 3 v1 rfl rfl) h1
  clear hA0 hval0 hsz0
  refine (walk W a0 w0 a1 w1).mono fun e W' ⟨he, bel⟩ => ?_
  subst he
  exact ⟨_, rfl, _, _, _, [], _, [], hW', trodAll_mk1 (shut_bool Try.underlying4 _), trodAll_below laidOut bel _ _ _ _ (by kernel_rfl) hAk, rfl, bel.frame _, fun h => by cases h⟩

theorem over : Rows.histBinsRow.holds Try.pinned (OpenSpec.ofChange Rows.histBinsSpec) :=
  OpenClaim.holds_of_wide 4 Try.f4 rfl rfl rfl rfl rfl rfl rfl ⟨rfl, rfl, rfl, rfl, rfl⟩ rfl rfl rfl rfl rfl (by kernel_rfl) Try.func4 (by kernel_rfl)
    (of_decide_eq_true (by kernel_rfl)) (by unfold Func.isWrapper; first | (rw [if_pos (by decide +kernel)]; kernel_rfl) | (rw [if_neg (by decide +kernel)]; exact ⟨rfl, rfl⟩))
    (fun os started H enc _ => lifted os started H enc)

theorem proved : Rows.HistBinsSaid := over
#print axioms proved
end Go.Proofs.Ytpheifdneafkhaa.histBins
