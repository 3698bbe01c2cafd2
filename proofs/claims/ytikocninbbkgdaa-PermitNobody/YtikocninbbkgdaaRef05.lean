/- Contracts of porpoiseref05: less, Holds, Free, Same. -/
import Derived.Test.YtikocninbbkgdaaPermAll
namespace Go.Proofs.Ytikocninbbkgdaa
set_option linter.unusedVariables false
open Go.ChangeShapes Go.WideShapes Go.ChangeAt Go.RowKit

abbrev robj (h : Hol) : Obj := .cells #[.int .i64 h.1, .int .i64 h.2] 24
theorem rcells {w : World} {j : Nat} {h : Hol} (hj : w.heap[j]? = some (robj h)) : w.cell? ⟨j, 0, none⟩ = some (.int .i64 h.1) ∧ w.cell? ⟨j, 1, none⟩ = some (.int .i64 h.2) := ⟨by rw [cell_of hj]; rfl, by rw [cell_of hj]; rfl⟩
/-- A slice of the document's holders of the call's own. -/
abbrev RefR (w : World) (base : Nat) (v : Value) (V : List Hol) : Prop := OwnR hrec w base 24 v V
theorem ref_slice : Try.prog.underlying 28 = some (.slice 24) := by kernel_rfl
theorem ref_info : (Try.prog.info? 24).map (fun i => (i.zero, i.size, i.bytes)) = some (some (.agg #[.int .i64 0, .int .i64 0]), 2, 16) := by kernel_rfl
theorem wpList_appF {ops : Array Oper} {rest : List Oper} {o : Oper} {a : Act} {Q : Exit → Act → World → Prop} {w : World} {base m c : Nat} {v : Value} {V U : List Hol} {A : Option Addr} (hg : o.guard = none) (s x : Operand)
    (ho : o.op = .call { callee := .builtin .append, args := #[s, x], argTypes := #[28, 28] })
    (hsv : a.eval s = v) (hxv : a.eval x = .slice A m c) (own : RefR w base v V) (src : RowR hrec w A m U) (hle : V.length + m ≤ 1048576) (hbase : base ≤ w.heap.size)
    (h : ∀ v' w', RefR w' base v' (V ++ U) → w.grownBy w' v.ownBlock → (v'.ownBlock = v.ownBlock ∨ v'.ownBlock = some w.heap.size) → wpList Try.prog ops Q rest (a.put o.dst v') w') : wpList Try.prog ops Q (o :: rest) a w := by
  obtain ⟨i0, hi0, hz0, hz1, hz2⟩ := info_parts ref_info
  exact wpList_appR hg s x ho ref_slice hi0 hz0 hz1 hz2 rfl (by omega) hsv hxv own src hle hbase h
theorem RowR.two {w : World} {A : Option Addr} {n : Nat} {V : List Hol} (h : RowR hrec w A n V) {i : Nat} (hi : i < n) : ∃ b off x y, A = some ⟨b, off, none⟩ ∧ V[i]? = some (x, y) ∧ w.cell? ⟨b, off + i * 2, none⟩ = some (.int .i64 x) ∧ w.cell? ⟨b, off + i * 2 + 1, none⟩ = some (.int .i64 y) := by
  obtain ⟨b, off, a, hA, hV, _, hc⟩ := h.at_ hi
  exact ⟨b, off, a.1, a.2, hA, hV, hc 0 _ rfl, hc 1 _ rfl⟩
theorem ref_eq (x y x' y' : Int) (h : wfH (x, y)) (h' : wfH (x', y')) (w : World) : (Op.equalIn 10000 24 (.agg #[.int .i64 x, .int .i64 y]) (.agg #[.int .i64 x', .int .i64 y'])).run Try.prog w = .ok (decide ((x, y) = (x', y'))) w := by
  by_cases e : (x, y) = (x', y')
  · injection e with e1 e2
    subst e1 e2
    rw [same_yes (P := Try.prog) (t := 24) 8 (by decide) (by kernel_rfl) (by kernel_rfl) (by kernel_rfl) (by kernel_rfl) (xs := #[.int .i64 x, .int .i64 y]) (by simpa using hol_flat h) w]
    simp
  · rw [same_no (P := Try.prog) (t := 24) 8 (by decide) (by kernel_rfl) (by kernel_rfl) (by kernel_rfl) (by kernel_rfl) (xs := #[.int .i64 x, .int .i64 y]) (ys := #[.int .i64 x', .int .i64 y']) (by simpa using hol_flat h) (by simpa using hol_flat h') (fun hc => e (by simp at hc; rw [hc.1, hc.2])) w]
    simp [e]
theorem take_succ {V : List Hol} {j : Nat} {z : Hol} (h : V[j]? = some z) : V.take (j + 1) = V.take j ++ [z] := by
  obtain ⟨hlt, he⟩ := List.getElem?_eq_some_iff.1 h
  rw [List.take_succ_eq_append_getElem hlt, he]

set_option maxHeartbeats 1000000 in
theorem less_any (a1 a2 b1 b2 : Int) (w : World) : Calls Try.prog 27 #[.agg #[.int .i64 a1, .int .i64 a2], .agg #[.int .i64 b1, .int .i64 b2]] w fun r w' => r = .returned (.bool (ltH (a1, a2) (b1, b2))) ∧ Below w.heap.size w w' := by
  have HB : Hid (Below w.heap.size w ((w.alloc (robj (a1, a2))).alloc (robj (b1, b2)))) := Lib.hid (((Below.refl _ _).alloc (Nat.le_refl _) _).alloc (by simp) _)
  by_cases h1 : a1 < b1
  · have e : ltH (a1, a2) (b1, b2) = true := by rw [ltH_iff]; exact .inl h1
    rw [e]
    clear e
    go_enter Try.func27, Try.ntmps27
    go_wp2
    go_ret
    exact ⟨rfl, HB.out⟩
  · by_cases h2 : a1 = b1
    · subst h2
      by_cases h3 : a2 < b2
      · have e : ltH (a1, a2) (a1, b2) = true := by rw [ltH_iff]; exact .inr ⟨rfl, h3⟩
        rw [e]
        clear e
        go_enter Try.func27, Try.ntmps27
        go_wp2
        go_ret
        exact ⟨rfl, HB.out⟩
      · have e : ltH (a1, a2) (a1, b2) = false := by rw [ltH_not]; exact .inr ⟨rfl, by omega⟩
        rw [e]
        clear e
        go_enter Try.func27, Try.ntmps27
        go_wp2
        go_ret
        exact ⟨rfl, HB.out⟩
    · have e : ltH (a1, a2) (b1, b2) = false := by rw [ltH_not]; exact .inl (by show b1 < a1; omega)
      have h2' : (a1 == b1) = false := by simp [h2]
      rw [e]
      clear e h2
      go_enter Try.func27, Try.ntmps27
      go_wp2
      go_ret
      exact ⟨rfl, HB.out⟩

set_option maxHeartbeats 1000000 in
theorem rholds_any (A : Option Addr) (n c : Nat) (x y : Int) (V : List Hol) (w : World) (hr : RowR hrec w A n V) (hwf : ∀ h ∈ V, wfH h) (hx : wfH (x, y)) :
    Calls Try.prog 19 #[.slice A n c, .agg #[.int .i64 x, .int .i64 y]] w fun r w' => r = .returned (.bool (decide ((x, y) ∈ V))) ∧ Below w.heap.size w w' := by
  have hb1 := below_alloc w (robj (x, y))
  have hd1 := heap_alloc_at w (robj (x, y))
  have hr1 := hr.later hb1
  have hnm := hr.2.1
  unfold maxLen at hnm
  have hV := hr.1
  generalize hW : w.alloc (robj (x, y)) = w1 at *
  have HB := Lib.hid hb1
  have HD := Lib.hid hd1
  have HR := Lib.hid hr1
  have HV := Lib.hid hV
  have HWF := Lib.hid hwf
  clear hr hb1 hd1 hr1 hwf hV
  go_enter Try.func19, Try.ntmps19
  go_wp2
  go_loopg [5] n (fun k v5 wr => ∃ j : Nat, j + k = n ∧ v5 = .int .i64 j ∧ (x, y) ∉ V.take j ∧ Ali w1 wr)
  case atStart => exact ⟨0, by omega, rfl, by simp, Ali.refl _⟩
  case round =>
    obtain ⟨j, hj, rfl, hno, ha⟩ := hrel
    have HJ := Lib.hid hj
    have NO := Lib.hid hno
    have HA := Lib.hid ha
    clear hj hno hW
    by_cases hlt : j < n
    · have hlt' : (j : Int) < n := by omega
      obtain ⟨b, off, z1, z2, rfl, hz, q0, q1⟩ := (HR.out.ali ha).two hlt
      obtain ⟨d0, d1⟩ := rcells (kb_below HD.out (ali_below ha))
      have heq := ref_eq z1 z2 x y (HWF.out _ (List.mem_of_getElem? hz)) hx
      have HZ := Lib.hid hz
      clear hz ha
      by_cases hc : (z1, z2) = (x, y)
      · have hdc : decide ((z1, z2) = (x, y)) = true := by simp [hc]
        rw [hdc] at heq
        have HC := Lib.hid hc
        clear hc hdc
        go_wp2
        go_quiet (fail)
        go_wp2
        go_ret
        have hin : (x, y) ∈ V := by rw [← HC.out]; exact List.mem_of_getElem? HZ.out
        exact ⟨ret_bool (by simp [hin]), below_drewN (below_ali HB.out HA.out) _⟩
      · have hdc : decide ((z1, z2) = (x, y)) = false := by simp [hc]
        rw [hdc] at heq
        have HC := Lib.hid hc
        clear hc hdc
        go_wp2
        go_quiet (fail)
        go_wp2
        go_roundg (n - (j + 1))
        case measure => have := HJ.out; omega
        case rel =>
          refine ⟨j + 1, by omega, by simp, ?_, HA.out.trans (drewN_ali _ _)⟩
          rw [take_succ HZ.out]
          intro hm
          rcases List.mem_append.1 hm with hm | hm
          · exact NO.out hm
          · rw [List.mem_singleton] at hm; exact HC.out hm.symm
    · have hlt' : ¬ (j : Int) < n := by omega
      clear ha
      go_wp2
      go_ret
      have := NO.out
      rw [List.take_of_length_le (by rw [HV.out]; omega)] at this
      exact ⟨ret_bool (by simp [this]), below_ali HB.out HA.out⟩
set_option maxHeartbeats 1000000 in
theorem rsame_any (A B : Option Addr) (n c m d : Nat) (V U : List Hol) (w : World) (hr : RowR hrec w A n V) (hs : RowR hrec w B m U) (hwf : ∀ h ∈ V, wfH h) (hwf' : ∀ h ∈ U, wfH h) :
    Calls Try.prog 12 #[.slice A n c, .slice B m d] w fun r w' => r = .returned (.bool (decide (V = U))) ∧ Ali w w' := by
  have hnm := hr.2.1
  unfold maxLen at hnm
  have HR := Lib.hid hr
  have HS := Lib.hid hs
  have HWF := Lib.hid hwf
  have HWF' := Lib.hid hwf'
  have HL := Lib.hid hr.1
  have HK := Lib.hid hs.1
  clear hr hs hwf hwf'
  by_cases hnm' : n = m
  · subst hnm'
    go_enter Try.func12, Try.ntmps12
    go_wp2
    go_loopg [5] n (fun k v5 wr => ∃ j : Nat, j + k = n ∧ v5 = .int .i64 j ∧ V.take j = U.take j ∧ Ali w wr)
    case atStart => exact ⟨0, by omega, rfl, by simp, Ali.refl _⟩
    case round =>
      obtain ⟨j, hj, rfl, hno, ha⟩ := hrel
      have HJ := Lib.hid hj
      have NO := Lib.hid hno
      have HA := Lib.hid ha
      clear hj hno
      by_cases hlt : j < n
      · have hlt' : (j : Int) < n := by omega
        obtain ⟨b, off, z1, z2, rfl, hz, q0, q1⟩ := (HR.out.ali ha).two hlt
        obtain ⟨b', off', u1, u2, rfl, hu, p0, p1⟩ := (HS.out.ali ha).two hlt
        have heq := ref_eq z1 z2 u1 u2 (HWF.out _ (List.mem_of_getElem? hz)) (HWF'.out _ (List.mem_of_getElem? hu))
        have HZ := Lib.hid hz
        have HU := Lib.hid hu
        clear hz hu ha
        by_cases hc : (z1, z2) = (u1, u2)
        · have hdc : decide ((z1, z2) = (u1, u2)) = true := by simp [hc]
          rw [hdc] at heq
          have HC := Lib.hid hc
          clear hc hdc
          go_wp2
          go_quiet (fail)
          go_wp2
          go_roundg (n - (j + 1))
          case measure => have := HJ.out; omega
          case rel =>
            refine ⟨j + 1, by omega, by simp, ?_, HA.out.trans (drewN_ali _ _)⟩
            rw [take_succ HZ.out, take_succ HU.out, NO.out, HC.out]
        · have hdc : decide ((z1, z2) = (u1, u2)) = false := by simp [hc]
          rw [hdc] at heq
          have HC := Lib.hid hc
          clear hc hdc
          go_wp2
          go_quiet (fail)
          go_wp2
          go_ret
          refine ⟨ret_bool ?_, HA.out.trans (drewN_ali _ _)⟩
          have hne : V ≠ U := by
            intro e
            have h1 := HZ.out
            rw [e, HU.out] at h1
            injection h1 with h1
            exact HC.out h1.symm
          simp [hne]
      · have hlt' : ¬ (j : Int) < n := by omega
        clear ha
        go_wp2
        go_ret
        have := NO.out
        rw [List.take_of_length_le (by rw [HL.out]; omega), List.take_of_length_le (by rw [HK.out]; omega)] at this
        exact ⟨ret_bool (by simp [this]), HA.out⟩
  · have hne : ((n : Int) == (m : Int)) = false := by simp; omega
    have hzu : V ≠ U := by intro e; have h1 := HL.out; have h2 := HK.out; rw [e] at h1; omega
    have hd : decide (V = U) = false := by simp [hzu]
    rw [hd]
    go_enter Try.func12, Try.ntmps12
    go_wp2
    go_ret
    exact ⟨rfl, Ali.refl _⟩
end Go.Proofs.Ytikocninbbkgdaa
