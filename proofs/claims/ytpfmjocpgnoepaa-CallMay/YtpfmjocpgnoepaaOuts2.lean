/- For seats with api.Out and without a log: porpoiseref11.Same of any outcomes, latch.May. (Out of Ref11b and Lat.) -/
import Derived.Test.YtpfmjocpgnoepaaOutsL
import Derived.Test.YtpfmjocpgnoepaaBat
namespace Go.Proofs.Ytpfmjocpgnoepaa
set_option linter.unusedVariables false
open Go.ChangeShapes Go.WideShapes Go.ChangeAt Go.RowKit

theorem omay_ways (x : Ot) : (x.kind = 1 ∧ x.may = (x.cause == 0)) ∨ (x.kind = 2 ∧ x.may = (x.cause == 0)) ∨ (x.kind = 3 ∧ 1 ≤ x.cause ∧ x.may = decide (x.cause ≤ 4)) ∨ (x.kind = 3 ∧ ¬ 1 ≤ x.cause ∧ x.may = false) ∨
    (x.kind = 4 ∧ (x.val == 0) = false ∧ x.may = false) ∨ (x.kind = 4 ∧ (x.val == 0) = true ∧ 1 ≤ x.cause ∧ x.may = decide (x.cause ≤ 4)) ∨ (x.kind = 4 ∧ (x.val == 0) = true ∧ ¬ 1 ≤ x.cause ∧ x.may = false) ∨
    ((x.kind == 1) = false ∧ (x.kind == 2) = false ∧ (x.kind == 3) = false ∧ (x.kind == 4) = false ∧ x.may = false) := by
  unfold Ot.may Ot.May
  by_cases k1 : x.kind = 1
  · left; refine ⟨k1, ?_⟩; by_cases h : x.cause = 0 <;> simp [k1, h]
  right
  by_cases k2 : x.kind = 2
  · left; refine ⟨k2, ?_⟩; by_cases h : x.cause = 0 <;> simp [k2, h]
  right
  by_cases k3 : x.kind = 3
  · by_cases h : 1 ≤ x.cause
    · left; exact ⟨k3, h, by simp [k3, h]⟩
    · right; left; exact ⟨k3, h, by simp [k3]; omega⟩
  right; right
  by_cases k4 : x.kind = 4
  · by_cases hv : x.val = 0
    · by_cases h : 1 ≤ x.cause
      · right; left; exact ⟨k4, by simp [hv], h, by simp [k4, h, hv]⟩
      · right; right; left; exact ⟨k4, by simp [hv], h, by simp [k4]; omega⟩
    · left; exact ⟨k4, by simp [hv], by simp [k4, hv]⟩
  · right; right; right; exact ⟨by simp [k1], by simp [k2], by simp [k3], by simp [k4], by simp [k1, k2, k3, k4]⟩
set_option maxHeartbeats 1000000 in
theorem omay_any (x : Ot) (w : World) : Calls Try.prog 28 #[.agg (aggV x.vals)] w fun r w' => r = .returned (.bool x.may) ∧ Below w.heap.size w w' := by
  obtain ⟨g, hg⟩ : ∃ g, w.heap.size = g := ⟨_, rfl⟩
  have hm := omay_ways x
  generalize x.may = t at hm ⊢
  rcases hm with ⟨k, rfl⟩ | ⟨k, rfl⟩ | ⟨k, c, rfl⟩ | ⟨k, c, rfl⟩ | ⟨k, v, rfl⟩ | ⟨k, v, c, rfl⟩ | ⟨k, v, c, rfl⟩ | ⟨k1, k2, k3, k4, rfl⟩
  all_goals (
    go_enter Try.func28, Try.ntmps28
    go_wp2_with (refine wpList_box_agg rfl 59 _ rfl g hg x.vals rfl ?_; intro w2 h2 l2 t2; obtain ⟨d0, d1, d2, d3, d4⟩ := cellsO h2; have HB := Lib.hid l2; clear h2 l2 t2 d0 d4)
    go_ret
    exact ⟨rfl, by first | exact HB.out | (rw [hg]; exact HB.out)⟩)

set_option maxHeartbeats 1000000 in
theorem osame_any (A B : Option Addr) (n c m d : Nat) (V U : List Ot) (w : World) (hr : RowR orec w A n V) (hs : RowR orec w B m U) (hwf : ∀ h ∈ V, h.Fits) (hwf' : ∀ h ∈ U, h.Fits) :
    Calls Try.prog 24 #[.slice A n c, .slice B m d] w fun r w' => r = .returned (.bool (decide (V = U))) ∧ Below w.heap.size w w' := by
  have hnm := hr.2.1
  unfold maxLen at hnm
  have HR := Lib.hid hr
  have HS := Lib.hid hs
  have HWF := Lib.hid hwf
  have HWF' := Lib.hid hwf'
  have HL := Lib.hid hr.1
  have HK := Lib.hid hs.1
  clear hr hs hwf hwf'
  by_cases hnm' : n = m
  · subst hnm'
    go_enter Try.func24, Try.ntmps24
    go_wp2
    go_loopg [5] n (fun k v5 wr => ∃ j : Nat, j + k = n ∧ v5 = .int .i64 j ∧ V.take j = U.take j ∧ Below w.heap.size w wr)
    case atStart => exact ⟨0, by omega, rfl, by simp, Below.refl _ _⟩
    case round =>
      obtain ⟨j, hj, rfl, hno, ha⟩ := hrel
      have HJ := Lib.hid hj
      have NO := Lib.hid hno
      have HA := Lib.hid ha
      clear hj hno
      by_cases hlt : j < n
      · have hlt' : (j : Int) < n := by omega
        obtain ⟨b, off, z, rfl, hz, hrg⟩ := (HR.out.later ha).out hlt
        obtain ⟨b', off', u, rfl, hu, hrg'⟩ := (HS.out.later ha).out hlt
        have heq := sameO z u (HWF.out _ (List.mem_of_getElem? hz)) (HWF'.out _ (List.mem_of_getElem? hu))
        have RG := Lib.hid hrg
        have RG' := Lib.hid hrg'
        have HZ := Lib.hid hz
        have HU := Lib.hid hu
        clear hz hu ha hrg hrg'
        by_cases hc : z = u
        · have hdc : decide (z = u) = true := by simp [hc]
          rw [hdc] at heq
          have HC := Lib.hid hc
          clear hc hdc
          go_wp2
          refine wp_region_later (by kernel_rfl) (by kernel_rfl) ?_
          repeat (first
            | (refine wpQuiet_load_out rfl _ rfl b (off + j * 5) rfl z RG.out ?_; simp only [Act.put, List.setIfInBounds_toArray, List.set_cons_zero, List.set_cons_succ])
            | (refine wpQuiet_load_out rfl _ rfl b' (off' + j * 5) rfl u RG'.out ?_; simp only [Act.put, List.setIfInBounds_toArray, List.set_cons_zero, List.set_cons_succ])
            | go_big_quiet_step (fail))
          refine wpQuiet_nil ?_
          rintro _ ⟨⟨w10, b10⟩, rfl⟩
          go_wp2
          go_roundg (n - (j + 1))
          case measure => have := HJ.out; omega
          case rel =>
            refine ⟨j + 1, by omega, by simp, ?_, HA.out.trans (b10.mono HA.out.size)⟩
            rw [take_more HZ.out, take_more HU.out, NO.out, HC.out]
        · have hdc : decide (z = u) = false := by simp [hc]
          rw [hdc] at heq
          have HC := Lib.hid hc
          clear hc hdc
          go_wp2
          refine wp_region_later (by kernel_rfl) (by kernel_rfl) ?_
          repeat (first
            | (refine wpQuiet_load_out rfl _ rfl b (off + j * 5) rfl z RG.out ?_; simp only [Act.put, List.setIfInBounds_toArray, List.set_cons_zero, List.set_cons_succ])
            | (refine wpQuiet_load_out rfl _ rfl b' (off' + j * 5) rfl u RG'.out ?_; simp only [Act.put, List.setIfInBounds_toArray, List.set_cons_zero, List.set_cons_succ])
            | go_big_quiet_step (fail))
          refine wpQuiet_nil ?_
          rintro _ ⟨⟨w10, b10⟩, rfl⟩
          go_wp2
          go_ret
          refine ⟨ret_bool ?_, HA.out.trans (b10.mono HA.out.size)⟩
          have hne : V ≠ U := by
            intro e
            have h1 := HZ.out
            rw [e, HU.out] at h1
            injection h1 with h1
            exact HC.out h1.symm
          simp [hne]
      · have hlt' : ¬ (j : Int) < n := by omega
        clear ha
        go_wp2
        go_ret
        have := NO.out
        rw [List.take_of_length_le (by rw [HL.out]; omega), List.take_of_length_le (by rw [HK.out]; omega)] at this
        exact ⟨ret_bool (by simp [this]), HA.out⟩
  · have hne : ((n : Int) == (m : Int)) = false := by simp; omega
    have hzu : V ≠ U := by intro e; have h1 := HL.out; have h2 := HK.out; rw [e] at h1; omega
    have hd : decide (V = U) = false := by simp [hzu]
    rw [hd]
    go_enter Try.func24, Try.ntmps24
    go_wp2
    go_ret
    exact ⟨rfl, Below.refl _ _⟩
end Go.Proofs.Ytpfmjocpgnoepaa
