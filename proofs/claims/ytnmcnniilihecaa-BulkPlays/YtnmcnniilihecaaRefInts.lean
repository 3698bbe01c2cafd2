/- Contracts of porpoiseref04: Remove, Has, Same. -/
import Derived.Test.YtnmcnniilihecaaInts
import Derived.Deep.LoopGhost
import Derived.Deep.RegionLaw
namespace Go.Proofs.Ytnmcnniilihecaa
set_option linter.unusedVariables false
open Go.ChangeShapes Go.WideShapes Go.ChangeAt Go.RowKit

theorem ints_empty (w : World) : Ints (w.alloc (.cells #[] 3)) w.heap.size (.slice (some ⟨w.heap.size, 0, none⟩) 0 0) [] := own_new (Has.new _ rfl) (Nat.le_refl _) rfl (by simp) (by simp) rfl
theorem wf_of {n : Int} (h : (Lit.int .i64 n).wf = true) : wf64 n := by have := bounds_i64 h; exact ⟨by omega, by omega⟩

theorem Row.tail {w : World} {b off m c : Nat} {x : Int} {l : List Int} (h : Row .i64 w (some ⟨b, off, none⟩) (m + 1) (x :: l)) (hl : l.length = m) (hc : m ≤ c) : Row .i64 w (if c = 0 then some ⟨b, off, none⟩ else some ⟨b, off + 1, none⟩) m l := by
  obtain ⟨h1, h2, h3, h4⟩ := h
  refine ⟨by omega, by omega, ?_, fun z hz => h4 z (by simp [hz])⟩
  by_cases hm : m = 0
  · exact .inl hm
  · rw [if_neg (by omega)]
    rcases h3 with h0 | ⟨b', off', e, hcs⟩
    · omega
    · injection e with e
      injection e with e1 e2
      subst e1 e2
      refine .inr ⟨b, off + 1, rfl, fun j hj => ?_⟩
      have := hcs (j + 1) (by simp; omega)
      rw [Nat.add_assoc, Nat.add_comm 1 j, this]
      simp [List.getD]
theorem take_next {zs : List Int} {j : Nat} (h : j < zs.length) : zs.take (j + 1) = zs.take j ++ [zs.getD j 0] := by
  rw [List.take_succ_eq_append_getElem h]; simp [List.getD, h]
theorem getD_mem {zs : List Int} {j : Nat} (h : j < zs.length) : zs.getD j 0 ∈ zs := by simp [List.getD, h]

set_option maxHeartbeats 1000000 in
theorem rremove_any (A : Option Addr) (n c : Nat) (x : Int) (zs : List Int) (w : World) (hr : Row .i64 w A n zs) (hl : zs.length = n) (hn : n ≤ 1000) :
    Calls Try.prog 24 #[.slice A n c, .int .i64 x] w fun r w' => ∃ v, r = .returned (.tuple #[v, .bool (decide (x ∈ zs))]) ∧ Ints w' w.heap.size v (zs.erase x) ∧ Below w.heap.size w w' := by
  have HR := Lib.hid hr
  have HL := Lib.hid hl
  clear hr hl
  go_enter Try.func24, Try.ntmps24
  go_wp2
  go_loopg [6, 7, 8] n (fun k v6 v7 v8 wr => ∃ j : Nat, j + k = n ∧ v8 = .int .i64 j ∧ v7 = .bool (decide (x ∈ zs.take j)) ∧ Ints wr w.heap.size v6 ((zs.take j).erase x) ∧ Below w.heap.size w wr)
  case atStart => exact ⟨0, by omega, rfl, by simp, Ints.nil _ _, Below.refl _ _⟩
  case round =>
    obtain ⟨j, hj, rfl, rfl, hi, hbl⟩ := hrel
    have HJ := Lib.hid hj
    have HI := Lib.hid hi
    have HBL := Lib.hid hbl
    by_cases hlt : j < n
    · have hlt' : (j : Int) < n := by omega
      obtain ⟨b, off, rfl, q0⟩ := (HR.out.later hbl).at_ hlt
      have hwz := wf_of (wf_getD HR.out.2.2.2 (j := j) (by rw [HL.out]; exact hlt))
      have htk := take_next (zs := zs) (j := j) (by rw [HL.out]; exact hlt)
      generalize zs.getD j 0 = z at q0 hwz htk
      have HWZ := Lib.hid hwz
      have HTK := Lib.hid htk
      have hlen : ((zs.take j).erase x).length ≤ 1000 := by
        have h1 := List.length_erase_le (a := x) (l := zs.take j)
        rw [List.length_take] at h1
        omega
      have HLEN := Lib.hid hlen
      clear hi hbl hj hwz htk hlen
      by_cases hin : x ∈ zs.take j
      · have hin' : decide (x ∈ zs.take j) = true := by simp [hin]
        rw [hin']
        have HIN := Lib.hid hin
        clear hin hin'
        go_wp2_with (first
          | (at_builtin
             refine wpList_app (base := w.heap.size) rfl (.tmp 25) (.tmp 30) rfl rfl rfl (HI.out.alloc _) (row_one wr z HWZ.out) rfl (by have := HLEN.out; omega) (by have := HBL.out.size; simp; omega) ?_
             intro v' w' own' gr' _
             have OWN := Lib.hid own'
             have GR := Lib.hid gr'
             clear own' gr'))
        go_roundg (n - (j + 1))
        case measure => have := HJ.out; omega
        case rel =>
          refine ⟨j + 1, by omega, by simp, by rw [HTK.out]; simp [HIN.out], ?_, ?_⟩
          · rw [HTK.out, List.erase_append_left _ HIN.out]
            exact OWN.out
          · have h1 := HBL.out.alloc (o := .cells #[.int .i64 z] 3) HBL.out.size
            exact h1.trans (grown_below GR.out h1.size HI.out.low)
      · have hin' : decide (x ∈ zs.take j) = false := by simp [hin]
        rw [hin']
        have HIN := Lib.hid hin
        clear hin hin'
        by_cases hzx : z = x
        · have hzx' : (z == x) = true := by simp [hzx]
          have HZX := Lib.hid hzx
          clear hzx
          go_wp2
          go_roundg (n - (j + 1))
          case measure => have := HJ.out; omega
          case rel =>
            refine ⟨j + 1, by omega, by simp, by rw [HTK.out, HZX.out]; simp, ?_, HBL.out⟩
            rw [HTK.out, HZX.out, List.erase_append_right _ HIN.out]
            have := HI.out
            rw [List.erase_of_not_mem HIN.out] at this
            simpa using this
        · have hzx' : (z == x) = false := by simp [hzx]
          have HZX := Lib.hid hzx
          clear hzx
          go_wp2_with (first
            | (at_builtin
               refine wpList_app (base := w.heap.size) rfl (.tmp 25) (.tmp 30) rfl rfl rfl (HI.out.alloc _) (row_one wr z HWZ.out) rfl (by have := HLEN.out; omega) (by have := HBL.out.size; simp; omega) ?_
               intro v' w' own' gr' _
               have OWN := Lib.hid own'
               have GR := Lib.hid gr'
               clear own' gr'))
          go_roundg (n - (j + 1))
          case measure => have := HJ.out; omega
          case rel =>
            have hno : x ∉ zs.take j ++ [z] := by
              intro hm
              rcases List.mem_append.1 hm with hm | hm
              · exact HIN.out hm
              · simp at hm; exact HZX.out hm.symm
            refine ⟨j + 1, by omega, by simp, by rw [HTK.out]; simp [hno, -List.mem_append], ?_, ?_⟩
            · rw [HTK.out, List.erase_of_not_mem hno]
              have := OWN.out
              rwa [List.erase_of_not_mem HIN.out] at this
            · have h1 := HBL.out.alloc (o := .cells #[.int .i64 z] 3) HBL.out.size
              exact h1.trans (grown_below GR.out h1.size HI.out.low)
    · have hlt' : ¬ (j : Int) < n := by omega
      have hall : zs.take j = zs := List.take_of_length_le (by rw [HL.out]; omega)
      rw [hall] at HI ⊢
      clear hi hbl hj hall
      go_wp2
      go_ret2
      exact ⟨_, rfl, HI.out, HBL.out⟩

set_option maxHeartbeats 1000000 in
theorem has_any (A : Option Addr) (n c : Nat) (x : Int) (zs : List Int) (w : World) (hr : Row .i64 w A n zs) (hl : zs.length = n) :
    Calls Try.prog 15 #[.slice A n c, .int .i64 x] w fun r w' => r = .returned (.bool (decide (x ∈ zs))) ∧ w' = w := by
  have HR := Lib.hid hr
  have HL := Lib.hid hl
  have hm := hr.2.1
  unfold maxLen at hm
  clear hr hl
  go_enter Try.func15, Try.ntmps15
  go_wp2
  go_loopg [5] n (fun k v5 wr => ∃ j : Nat, j + k = n ∧ v5 = .int .i64 j ∧ x ∉ zs.take j ∧ wr = w)
  case atStart => exact ⟨0, by omega, rfl, by simp, rfl⟩
  case round =>
    obtain ⟨j, hj, rfl, hno, rfl⟩ := hrel
    have HJ := Lib.hid hj
    have NO := Lib.hid hno
    clear hj hno
    by_cases hlt : j < n
    · have hlt' : (j : Int) < n := by omega
      obtain ⟨b, off, rfl, q0⟩ := HR.out.at_ hlt
      have hlt2 : j < zs.length := by rw [HL.out]; exact hlt
      have htk := take_next (zs := zs) (j := j) hlt2
      have hmem := getD_mem (zs := zs) (j := j) hlt2
      generalize zs.getD j 0 = z at q0 htk hmem
      have HTK := Lib.hid htk
      have HMEM := Lib.hid hmem
      clear htk hmem hlt2
      by_cases hzx : z = x
      · have hzx' : (z == x) = true := by simp [hzx]
        have HZX := Lib.hid hzx
        clear hzx
        go_wp2
        go_ret
        refine ⟨ret_bool ?_, rfl⟩
        have := HMEM.out
        rw [HZX.out] at this
        simp [this]
      · have hzx' : (z == x) = false := by simp [hzx]
        have HZX := Lib.hid hzx
        clear hzx
        go_wp2
        go_roundg (n - (j + 1))
        case measure => have := HJ.out; omega
        case rel =>
          refine ⟨j + 1, by omega, by simp, ?_, rfl⟩
          rw [HTK.out]
          intro hm
          rcases List.mem_append.1 hm with hm | hm
          · exact NO.out hm
          · simp at hm; exact HZX.out hm.symm
    · have hlt' : ¬ (j : Int) < n := by omega
      go_wp2
      go_ret
      have := NO.out
      rw [List.take_of_length_le (by rw [HL.out]; omega)] at this
      exact ⟨ret_bool (by simp [this]), rfl⟩

set_option maxHeartbeats 1000000 in
theorem same_any (A B : Option Addr) (n c m d : Nat) (zs us : List Int) (w : World) (hr : Row .i64 w A n zs) (hl : zs.length = n) (hs : Row .i64 w B m us) (hk : us.length = m) :
    Calls Try.prog 16 #[.slice A n c, .slice B m d] w fun r w' => r = .returned (.bool (decide (zs = us))) ∧ Ali w w' := by
  have HR := Lib.hid hr
  have HL := Lib.hid hl
  have HS := Lib.hid hs
  have HK := Lib.hid hk
  have hm := hr.2.1
  unfold maxLen at hm
  clear hr hl hs hk
  by_cases hnm : n = m
  · subst hnm
    go_enter Try.func16, Try.ntmps16
    go_wp2
    go_loopg [5] n (fun k v5 wr => ∃ j : Nat, j + k = n ∧ v5 = .int .i64 j ∧ zs.take j = us.take j ∧ Ali w wr)
    case atStart => exact ⟨0, by omega, rfl, by simp, Ali.refl _⟩
    case round =>
      obtain ⟨j, hj, rfl, hno, ha⟩ := hrel
      have HJ := Lib.hid hj
      have NO := Lib.hid hno
      have HA := Lib.hid ha
      clear hj hno
      by_cases hlt : j < n
      · have hlt' : (j : Int) < n := by omega
        obtain ⟨b, off, rfl, q0⟩ := (HR.out.ali ha).at_ hlt
        obtain ⟨b', off', rfl, q1⟩ := (HS.out.ali ha).at_ hlt
        have htk := take_next (zs := zs) (j := j) (by rw [HL.out]; exact hlt)
        have htk' := take_next (zs := us) (j := j) (by rw [HK.out]; exact hlt)
        generalize zs.getD j 0 = z at q0 htk
        generalize us.getD j 0 = u at q1 htk'
        have HTK := Lib.hid htk
        have HTK' := Lib.hid htk'
        clear htk htk' ha
        by_cases hzx : z = u
        · have hzx' : (z == u) = true := by simp [hzx]
          have HZX := Lib.hid hzx
          clear hzx
          go_wp2
          go_quiet (fail)
          go_wp2
          go_roundg (n - (j + 1))
          case measure => have := HJ.out; omega
          case rel =>
            refine ⟨j + 1, by omega, by simp, ?_, HA.out.trans (drewN_ali _ _)⟩
            rw [HTK.out, HTK'.out, NO.out, HZX.out]
        · have hzx' : (z == u) = false := by simp [hzx]
          have HZX := Lib.hid hzx
          clear hzx
          go_wp2
          go_quiet (fail)
          go_wp2
          go_ret
          refine ⟨ret_bool ?_, HA.out.trans (drewN_ali _ _)⟩
          have hne : zs ≠ us := by
            intro e
            have h1 := HTK.out
            rw [e, HTK'.out] at h1
            have := (List.append_inj_right' h1 (by simp))
            simp at this
            exact HZX.out this.symm
          simp [hne]
      · have hlt' : ¬ (j : Int) < n := by omega
        clear ha
        go_wp2
        go_ret
        have := NO.out
        rw [List.take_of_length_le (by rw [HL.out]; omega), List.take_of_length_le (by rw [HK.out]; omega)] at this
        exact ⟨ret_bool (by simp [this]), HA.out⟩
  · have hne : ((n : Int) == (m : Int)) = false := by simp; omega
    have hzu : zs ≠ us := by intro e; have h1 := HL.out; have h2 := HK.out; rw [e] at h1; omega
    have hd : decide (zs = us) = false := by simp [hzu]
    rw [hd]
    go_enter Try.func16, Try.ntmps16
    go_wp2
    go_ret
    exact ⟨rfl, Ali.refl _⟩
end Go.Proofs.Ytnmcnniilihecaa
