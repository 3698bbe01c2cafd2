/- Contracts of porpoiseref04: Same. -/
import Derived.Test.YtlphahkmibhidaaInts
import Derived.Deep.LoopGhost
import Derived.Deep.RegionLaw
namespace Go.Proofs.Ytlphahkmibhidaa
set_option linter.unusedVariables false
open Go.ChangeShapes Go.WideShapes Go.ChangeAt Go.RowKit

theorem ints_empty (w : World) : Ints (w.alloc (.cells #[] 3)) w.heap.size (.slice (some ⟨w.heap.size, 0, none⟩) 0 0) [] := own_new (Has.new _ rfl) (Nat.le_refl _) rfl (by simp) (by simp) rfl
theorem wf_of {n : Int} (h : (Lit.int .i64 n).wf = true) : wf64 n := by have := bounds_i64 h; exact ⟨by omega, by omega⟩

theorem take_next {zs : List Int} {j : Nat} (h : j < zs.length) : zs.take (j + 1) = zs.take j ++ [zs.getD j 0] := by
  rw [List.take_succ_eq_append_getElem h]; simp [List.getD, h]
theorem getD_mem {zs : List Int} {j : Nat} (h : j < zs.length) : zs.getD j 0 ∈ zs := by simp [List.getD, h]

set_option maxHeartbeats 1000000 in
theorem same_any (A B : Option Addr) (n c m d : Nat) (zs us : List Int) (w : World) (hr : Row .i64 w A n zs) (hl : zs.length = n) (hs : Row .i64 w B m us) (hk : us.length = m) :
    Calls Try.prog 19 #[.slice A n c, .slice B m d] w fun r w' => r = .returned (.bool (decide (zs = us))) ∧ Ali w w' := by
  have HR := Lib.hid hr
  have HL := Lib.hid hl
  have HS := Lib.hid hs
  have HK := Lib.hid hk
  have hm := hr.2.1
  unfold maxLen at hm
  clear hr hl hs hk
  by_cases hnm : n = m
  · subst hnm
    go_enter Try.func19, Try.ntmps19
    go_wp2
    go_loopg [5] n (fun k v5 wr => ∃ j : Nat, j + k = n ∧ v5 = .int .i64 j ∧ zs.take j = us.take j ∧ Ali w wr)
    case atStart => exact ⟨0, by omega, rfl, by simp, Ali.refl _⟩
    case round =>
      obtain ⟨j, hj, rfl, hno, ha⟩ := hrel
      have HJ := Lib.hid hj
      have NO := Lib.hid hno
      have HA := Lib.hid ha
      clear hj hno
      by_cases hlt : j < n
      · have hlt' : (j : Int) < n := by omega
        obtain ⟨b, off, rfl, q0⟩ := (HR.out.ali ha).at_ hlt
        obtain ⟨b', off', rfl, q1⟩ := (HS.out.ali ha).at_ hlt
        have htk := take_next (zs := zs) (j := j) (by rw [HL.out]; exact hlt)
        have htk' := take_next (zs := us) (j := j) (by rw [HK.out]; exact hlt)
        generalize zs.getD j 0 = z at q0 htk
        generalize us.getD j 0 = u at q1 htk'
        have HTK := Lib.hid htk
        have HTK' := Lib.hid htk'
        clear htk htk' ha
        by_cases hzx : z = u
        · have hzx' : (z == u) = true := by simp [hzx]
          have HZX := Lib.hid hzx
          clear hzx
          go_wp2
          go_quiet (fail)
          go_wp2
          go_roundg (n - (j + 1))
          case measure => have := HJ.out; omega
          case rel =>
            refine ⟨j + 1, by omega, by simp, ?_, HA.out.trans (drewN_ali _ _)⟩
            rw [HTK.out, HTK'.out, NO.out, HZX.out]
        · have hzx' : (z == u) = false := by simp [hzx]
          have HZX := Lib.hid hzx
          clear hzx
          go_wp2
          go_quiet (fail)
          go_wp2
          go_ret
          refine ⟨ret_bool ?_, HA.out.trans (drewN_ali _ _)⟩
          have hne : zs ≠ us := by
            intro e
            have h1 := HTK.out
            rw [e, HTK'.out] at h1
            have := (List.append_inj_right' h1 (by simp))
            simp at this
            exact HZX.out this.symm
          simp [hne]
      · have hlt' : ¬ (j : Int) < n := by omega
        clear ha
        go_wp2
        go_ret
        have := NO.out
        rw [List.take_of_length_le (by rw [HL.out]; omega), List.take_of_length_le (by rw [HK.out]; omega)] at this
        exact ⟨ret_bool (by simp [this]), HA.out⟩
  · have hne : ((n : Int) == (m : Int)) = false := by simp; omega
    have hzu : zs ≠ us := by intro e; have h1 := HL.out; have h2 := HK.out; rw [e] at h1; omega
    have hd : decide (zs = us) = false := by simp [hzu]
    rw [hd]
    go_enter Try.func19, Try.ntmps19
    go_wp2
    go_ret
    exact ⟨rfl, Ali.refl _⟩
end Go.Proofs.Ytlphahkmibhidaa
