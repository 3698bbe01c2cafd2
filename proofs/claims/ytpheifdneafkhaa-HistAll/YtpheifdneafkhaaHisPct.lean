/- Contract of package hist's Percentile. -/
import Derived.Test.YtpheifdneafkhaaHisAll
import Derived.Test.YtpheifdneafkhaaSatPart
namespace Go.Proofs.Ytpheifdneafkhaa
set_option linter.unusedVariables false
open Go.ChangeShapes Go.WideShapes Go.ChangeAt Go.RowKit

/-- Are those up to bin i at least that percent of all? -/
def okP (A : List Int) (p : Int) (i : Nat) : Bool := decide (0 < sumS (A.take (i + 1))) && partB (sumS (A.take (i + 1))) (sumS A) p
def pctN (A : List Int) (p : Int) : Option Nat := (List.range 65).find? (okP A p)
def pctX (A : List Int) (p : Int) : Int := match pctN A p with | some i => topN i | none => 0
def pctB (A : List Int) (p : Int) : Bool := (pctN A p).isSome
def clampP (p : Int) : Int := if p < 1 then 1 else if 100 < p then 100 else p
theorem pctN_some {A : List Int} {p : Int} {i : Nat} (hi : i < 65) (h : okP A p i = true) (hn : ∀ j, j < i → okP A p j = false) : pctN A p = some i := by
  unfold pctN
  rw [List.find?_range_eq_some]
  exact ⟨h, by simpa using hi, fun j hj => by simp [hn j hj]⟩
theorem pctN_none {A : List Int} {p : Int} (hn : ∀ j, j < 65 → okP A p j = false) : pctN A p = none := by
  unfold pctN
  rw [List.find?_eq_none]
  intro j hj
  simp at hj
  simp [hn j hj]
theorem pctN_inv {A : List Int} {p : Int} {i : Nat} (h : pctN A p = some i) : i < 65 ∧ okP A p i = true ∧ ∀ j, j < i → okP A p j = false := by
  unfold pctN at h
  rw [List.find?_range_eq_some] at h
  exact ⟨by simpa using h.2.1, h.1, fun j hj => by simpa using h.2.2 j hj⟩

/-- Numbers that are. -/
abbrev Ok65 (A : List Int) : Prop := A.length = 65 ∧ ∀ n ∈ A, 0 ≤ n ∧ n ≤ 18446744073709551615

set_option maxRecDepth 100000 in
set_option maxHeartbeats 1000000 in
theorem pct_of (q : Option Addr) (now percent : Int) (A : List Int) (R : World → Prop) (w : World) (hA : Ok65 A) (hp : -9223372036854775808 ≤ percent) (hp' : percent ≤ 9223372036854775807)
    (hall : Calls Try.prog 18 #[.pointer q, .int .u64 now] w fun r w' => r = .returned (.agg (arrU A)) ∧ R w') :
    Calls Try.prog 15 #[.pointer q, .int .u64 now, .int .i64 percent] w fun r w' => r = .returned (.tuple #[.int .u64 (pctX A (clampP percent)), .bool (pctB A (clampP percent))]) ∧ ∃ w1, R w1 ∧ Below w1.heap.size w1 w' := by
  obtain ⟨m, hm⟩ : ∃ m, clampP percent = m := ⟨_, rfl⟩
  have hmb : 1 ≤ m ∧ m ≤ 100 := by rw [← hm]; unfold clampP; split <;> (try split) <;> omega
  rw [hm]
  obtain ⟨m1, hmx⟩ : ∃ m1, (if percent < 1 then (1 : Int) else percent) = m1 := ⟨_, rfl⟩
  have hmn : (if (100 : Int) < m1 then (100 : Int) else m1) = m := by rw [← hm, ← hmx]; unfold clampP; split <;> simp
  have hm1b : 1 ≤ m1 ∧ m1 ≤ 9223372036854775807 := by rw [← hmx]; split <;> omega
  have HM := Lib.hid hm
  have HA := Lib.hid hA
  clear hm hA
  go_enter Try.func15, Try.ntmps15
  go_wp2_with fail
  refine hall.mono ?_
  clear hall
  rintro r w1 ⟨rfl, hR⟩
  have HR := Lib.hid hR
  obtain ⟨g, hG⟩ : ∃ g, w1.heap.size = g := ⟨_, rfl⟩
  have HG := Lib.hid hG
  clear hR hG
  go_wp2_with (first
    | (refine wpList_store_arr rfl 42 (.tmp 8) (.tmp 15) rfl g z65 A rfl rfl K0 (by rw [z65_len, HA.out.1]) (size65 HA.out.1) ?_; rintro w3 K1 F3 S3)
    | (refine wpList_alloc_arr rfl 42 rfl g HG.out z65 (alloc65 _) ?_; rintro w2 K0 B2 S2))
  have hrow : Row .u64 w3 (some ⟨g, 0, none⟩) 65 A := by have := aobj_row K1 (by rw [HA.out.1]; decide) HA.out.2; rwa [HA.out.1] at this
  refine (sum_any (some ⟨g, 0, none⟩) 65 65 A w3 hrow).mono ?_
  rintro e w4 ⟨rfl, rfl⟩
  have hb3 : Below w1.heap.size w1 w3 := by rw [HG.out]; exact B2.trans (F3.below (by omega) (fun j hj e => by omega))
  have HB3 := Lib.hid hb3
  have K := Lib.hid K1
  rw [List.take_of_length_le (by rw [HA.out.1]; exact Nat.le_refl _)]
  have hbd : ∀ i, 0 ≤ sumS (A.take i) ∧ sumS (A.take i) ≤ 18446744073709551615 := fun i => sumS_bd _ (fun n hn => (HA.out.2 n (List.mem_of_mem_take hn)).1)
  have hwb := sumS_bd A (fun n hn => (HA.out.2 n hn).1)
  have hok : ∀ i, okP A m i = (decide (0 < sumS (A.take (i + 1))) && partB (sumS (A.take (i + 1))) (sumS A) m) := fun _ => rfl
  have hsn : ∀ i, i < 65 → sumS (A.take (i + 1)) = addS (sumS (A.take i)) (A.getD i 0) := fun i hi => sumS_snoc A i (by rw [HA.out.1]; exact hi)
  generalize sumS A = W at *
  have HBD := Lib.hid hbd
  have HSN := Lib.hid hsn
  have HOK := Lib.hid hok
  clear hrow hb3 K0 K1 B2 S2 F3 S3 hbd hsn hok
  go_wp2_with (refine wpList_load_arr rfl 42 (.tmp 8) rfl g rfl A K.out 65 22 und65 (size65 HA.out.1) ?_)
  go_loop [22, 10] (fun v22 v10 => ∃ i : Nat, i ≤ 65 ∧ v22 = .int .i64 i ∧ v10 = .int .u64 (sumS (A.take i)) ∧ ∀ j, j < i → okP A m j = false) (fun v22 _ => 65 - (intOf v22).toNat)
  case atStart => exact ⟨0, by omega, rfl, rfl, fun j hj => by omega⟩
  case round =>
    obtain ⟨i, hi, rfl, rfl, hno⟩ := hrel
    have HNO := Lib.hid hno
    clear hno
    by_cases hlt : i < 65
    · have hlt' : (i : Int) < 65 := by omega
      obtain ⟨z, hz⟩ : ∃ z, A.getD i 0 = z := ⟨_, rfl⟩
      have hAi : A[i]? = some z := by
        rw [List.getD_eq_getElem?_getD] at hz
        rw [List.getElem?_eq_getElem (by rw [HA.out.1]; exact hlt)] at hz ⊢
        exact congrArg some hz
      have hzb := HA.out.2 z (List.mem_of_getElem? hAi)
      have hik := index65 hlt hAi
      have hs := HSN.out i hlt
      have hb0 := HBD.out i
      have hb1 := HBD.out (i + 1)
      have ho := HOK.out i
      rw [hs] at ho hb1
      have HS := Lib.hid hs
      rw [hz] at ho hb1
      have HZ := Lib.hid hz
      have ha := fun v => add_any (sumS (A.take i)) z v hb0.1 hzb.1 hb0.2 hzb.2
      generalize hp0 : sumS (A.take i) = P0 at *
      have HP0 := Lib.hid hp0
      generalize hp1 : addS P0 z = P1 at *
      have HP1 := Lib.hid hp1
      have HO := Lib.hid ho
      have ht := fun v => top_any (i : Int) v (by omega) (by omega)
      rw [topS_nat (show i ≤ 64 by omega)] at ht
      have hat := fun v => atLeast_any P1 W m v hb1.1 hwb.1 hb1.2 hwb.2 (by omega) (by omega)
      clear hz hs ho hp0 hp1 hAi
      by_cases hP : 0 < P1
      · cases hB : partB P1 W m with
        | true =>
          rw [hB] at hat
          have hk : Hid (pctN A m = some i) := Lib.hid (pctN_some hlt (by rw [HO.out, hB]; simp [hP]) HNO.out)
          clear hB
          go_wp2_with (first
            | (go_at_call 25; refine (ha _).mono ?_; rintro e w5 ⟨rfl, rfl⟩)
            | (go_at_call 26; refine (hat _).mono ?_; rintro e w5 ⟨rfl, rfl⟩)
            | (go_at_call 12; refine (ht _).mono ?_; rintro e w5 ⟨rfl, rfl⟩))
          go_ret2
          refine ⟨?_, w1, HR.out, HB3.out⟩
          unfold pctX pctB
          rw [hk.out]
          rfl
        | false =>
          rw [hB] at hat
          have hk : Hid (okP A m i = false) := Lib.hid (by rw [HO.out, hB]; simp)
          clear hB
          go_wp2_with (first
            | (go_at_call 25; refine (ha _).mono ?_; rintro e w5 ⟨rfl, rfl⟩)
            | (go_at_call 26; refine (hat _).mono ?_; rintro e w5 ⟨rfl, rfl⟩))
          go_round
          case rel => exact ⟨i + 1, by omega, by go_num, by rw [HS.out, HZ.out, HP1.out], fun j hj => if e : j = i then by rw [e]; exact hk.out else HNO.out j (by omega)⟩
          case measure => simp [intOf]; omega
      · have hk : Hid (okP A m i = false) := Lib.hid (by rw [HO.out]; simp [hP])
        go_wp2_with (first
          | (go_at_call 25; refine (ha _).mono ?_; rintro e w5 ⟨rfl, rfl⟩))
        go_round
        case rel => exact ⟨i + 1, by omega, by go_num, by rw [HS.out, HZ.out, HP1.out], fun j hj => if e : j = i then by rw [e]; exact hk.out else HNO.out j (by omega)⟩
        case measure => simp [intOf]; omega
    · have hlt' : ¬ (i : Int) < 65 := by omega
      obtain rfl : i = 65 := by omega
      have hk : Hid (pctN A m = none) := Lib.hid (pctN_none HNO.out)
      go_wp2
      go_ret2
      refine ⟨?_, w1, HR.out, HB3.out⟩
      unfold pctX pctB
      rw [hk.out]
      rfl
end Go.Proofs.Ytpheifdneafkhaa
