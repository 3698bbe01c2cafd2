/- Contracts of the reference functions of layer 2, and of the examples' check. -/
import Derived.Test.YtbjehaloimbliaaBits
namespace Go.Proofs.Ytbjehaloimbliaa
set_option linter.unusedVariables false
open Go.ChangeShapes Go.WideShapes Go.ChangeAt Go.RowKit

set_option maxHeartbeats 400000 in
theorem rlen_any (x : Int) (w : World) (h : 0 ≤ x) (h' : x ≤ 18446744073709551615) :
    Calls Try.prog 11 #[.int .u64 x] w fun e w' => e = .returned (.int .i64 (lenS x)) ∧ w = w' := by
  have hx := lenS_bd h h'
  go_enter Try.func11, Try.ntmps11
  go_wp2
  go_loop [0, 3] (fun t n => ∃ y : Int, 0 ≤ y ∧ y ≤ 18446744073709551615 ∧ t = .int .u64 y ∧ lenS y ≤ lenS x ∧ n = .int .i64 (lenS x - lenS y)) (fun t _ => (intOf t).toNat)
  case atStart => exact ⟨x, h, h', rfl, Int.le_refl _, by rw [Int.sub_self]⟩
  case round =>
    obtain ⟨y, hy, hy', rfl, hle, rfl⟩ := hrel
    have hb := lenS_bd hy hy'
    by_cases hp : 0 < y
    · have hs := Lib.hid (lenS_half hp)
      have hs' : lenS (y / 2) + 1 ≤ lenS y := by rw [← hs.out]; exact Int.le_refl _
      go_wp2
      go_round
      case rel => exact ⟨y / 2, by omega, by omega, rfl, by omega, by rw [hs.out]; go_num⟩
      case measure => simp [intOf]; omega
    · have hz := Lib.hid (show lenS y = 0 by rw [show y = 0 by omega]; rfl)
      go_wp2
      go_ret
      exact ⟨ret_int (by rw [hz.out]; omega), rfl⟩

theorem blkS_more {t l : Int} {k : Nat} (h : blkS t k = 0) (hl : (k : Int) ≤ l) : blkS t l = 0 := by
  obtain ⟨j, rfl⟩ : ∃ j : Nat, l = ((k + j : Nat) : Int) := ⟨(l - k).toNat, by omega⟩
  rw [← blkS_blk, h, blkS_zero]

set_option maxHeartbeats 400000 in
theorem rblock_any (t l : Int) (w : World) (h : 0 ≤ t) (h' : t ≤ 18446744073709551615) (hl : -9223372036854775808 ≤ l) (hl' : l ≤ 9223372036854775807) :
    Calls Try.prog 13 #[.int .u64 t, .int .i64 l] w fun e w' => e = .returned (.int .u64 (blkS t l)) ∧ w = w' := by
  go_enter Try.func13, Try.ntmps13
  go_wp2
  go_loop [0, 5] (fun v i => ∃ k : Nat, v = .int .u64 (blkS t k) ∧ i = .int .i64 k ∧ ((k : Int) ≤ l ∨ k = 0)) (fun v _ => (intOf v).toNat)
  case atStart => exact ⟨0, by rw [blkS_none (by omega)], rfl, .inr rfl⟩
  case round =>
    obtain ⟨k, rfl, rfl, hk⟩ := hrel
    have hb := blkS_bd (k : Int) h
    by_cases hlt : (k : Int) < l
    · by_cases hp : 0 < blkS t k
      · have hs := Lib.hid (blkS_step (t := t) k)
        clear hk
        go_wp2
        go_round
        case rel => exact ⟨k + 1, by rw [hs.out], by go_num, .inl (by omega)⟩
        case measure => simp [intOf]; omega
      · have hz := Lib.hid (show blkS t k = 0 by omega)
        have hz' := Lib.hid (blkS_more hz.out (Int.le_of_lt hlt))
        clear hk
        go_wp2
        go_ret
        exact ⟨ret_int (by rw [hz.out, hz'.out]), rfl⟩
    · have he : Hid (blkS t k = blkS t l) := Lib.hid (by
        rcases hk with hk | hk
        · rw [show (k : Int) = l by omega]
        · subst hk
          rw [blkS_none (by omega), blkS_none (by omega)])
      clear hk
      go_wp2
      go_ret
      exact ⟨ret_int he.out, rfl⟩

theorem rslot_any (t l : Int) (w : World) (h : 0 ≤ t) (h' : t ≤ 18446744073709551615) (hl : -9223372036854775808 ≤ l) (hl' : l ≤ 9223372036854775807) :
    Calls Try.prog 15 #[.int .u64 t, .int .i64 l] w fun e w' => e = .returned (.int .i64 (blkS t l % 64)) ∧ w = w' := by
  have hb := blkS_bd l h
  go_enter Try.func15, Try.ntmps15
  go_wp2_with (go_at_call 13; refine (rblock_any _ _ _ h h' hl hl').mono ?_; rintro e w' ⟨rfl, rfl⟩)
  go_ret
  exact ⟨rfl, rfl⟩

set_option maxHeartbeats 400000 in
theorem rlevel_any (a b : Int) (w : World) (ha : 0 ≤ a) (ha' : a ≤ 18446744073709551615) (hb : 0 ≤ b) (hb' : b ≤ 18446744073709551615) :
    Calls Try.prog 17 #[.int .u64 a, .int .u64 b] w fun e w' => e = .returned (.int .i64 (levS a b)) ∧ w = w' := by
  go_enter Try.func17, Try.ntmps17
  go_wp2
  refine wp_loop_rounds 5 ?_
  repeat any_goals (rw [rounds_succ]; go_wp2_with (go_at_call 13; refine (rblock_any _ _ _ (by omega) (by omega) (by omega) (by omega)).mono ?_; rintro e w' ⟨rfl, rfl⟩))
  all_goals go_ret
  · exact ⟨ret_int (lev_0 (by assumption)), rfl⟩
  · exact ⟨ret_int (lev_1 (by assumption) (by assumption)), rfl⟩
  · exact ⟨ret_int (lev_2 (by assumption) (by assumption) (by assumption)), rfl⟩
  · exact ⟨ret_int (lev_3 (by assumption) (by assumption) (by assumption) (by assumption)), rfl⟩
  · exact ⟨ret_int (lev_4 (by assumption) (by assumption) (by assumption) (by assumption)), rfl⟩

theorem rnarrow_any (x : Int) (w : World) (h : -9223372036854775808 ≤ x) (h' : x ≤ 9223372036854775807) :
    Calls Try.prog 19 #[.int .i64 x] w fun e w' => e = .returned (.tuple #[.int .i32 (narS x), .bool (narS x == x)]) ∧ w = w' := by
  obtain ⟨u, hu, h1, h2, h3⟩ : ∃ u : Int, IntKind.u64.wrap x = u ∧ 0 ≤ u ∧ u ≤ 18446744073709551615 ∧ u % 4294967296 = x % 4294967296 :=
    ⟨_, IntKind.wrap_u64 x, by omega, by omega, by omega⟩
  have H3 := Lib.hid h3
  clear h3
  go_enter Try.func19, Try.ntmps19
  go_wp2
  all_goals go_ret2
  all_goals have h3 := H3.out
  · have e : u % 4294967296 - 4294967296 = narS x := by unfold narS; omega
    exact ⟨ret_tuple2 e (by rw [e]), rfl⟩
  · have e : u % 4294967296 = narS x := by unfold narS; omega
    exact ⟨ret_tuple2 (by first | exact e | (rw [← e]; unfold wrap32; omega)) (by rw [e]), rfl⟩

theorem bytes_eq2 {x : Int} : (#[.int .u8 (x / 256 / 256 / 256 / 256 / 256 / 256 / 256 % 256), .int .u8 (x / 256 / 256 / 256 / 256 / 256 / 256 % 256), .int .u8 (x / 256 / 256 / 256 / 256 / 256 % 256), .int .u8 (x / 256 / 256 / 256 / 256 % 256), .int .u8 (x / 256 / 256 / 256 % 256), .int .u8 (x / 256 / 256 % 256), .int .u8 (x / 256 % 256), .int .u8 (x % 256)] : Array Value) = bytesA x := by
  unfold bytesA
  simp only [Array.mk.injEq, List.cons.injEq, Value.int.injEq, true_and, and_true]
  omega
set_option maxHeartbeats 1000000 in
theorem rbytes_any (x : Int) (w : World) (h : 0 ≤ x) (h' : x ≤ 18446744073709551615) :
    Calls Try.prog 21 #[.int .u64 x] w fun e w' => e = .returned (.agg (bytesA x)) ∧ Below w.heap.size w w' := by
  go_enter Try.func21, Try.ntmps21
  go_wp2
  refine wp_loop_rounds 9 ?_
  repeat any_goals (rw [rounds_succ]; go_wp2)
  refine bodyPost_ret (v := .agg _) (by simp [results, Try.results21, go_sem]; rfl) rfl ⟨?_, ((Below.refl _ _).alloc (Nat.le_refl _) _).alloc (by simp) _⟩
  rw [bytes_eq2]

set_option maxHeartbeats 1000000 in
theorem rfrom_any (a : Option Addr) (len cap : Nat) (zs : List Int) (w : World) (h : Row .u8 w a len zs) (hlc : len ≤ cap) (hcm : cap ≤ maxLen) :
    Calls Try.prog 23 #[.slice a len cap] w fun e w' => e = .returned (.int .u64 (fromS (zs.take len))) ∧ w = w' := by
  obtain ⟨hz, hm, hc, hwf⟩ := h
  unfold maxLen at hm hcm
  by_cases h8 : len ≤ 8
  · have hfin := Lib.hid (fromS_take_short zs len h8)
    have HC := Lib.hid hc
    have HW := Lib.hid hwf
    clear hc hwf
    go_enter Try.func23, Try.ntmps23
    go_wp2
    go_loop [3, 4] (fun t i => ∃ k : Nat, k ≤ len ∧ i = .int .i64 k ∧ t = .int .u64 (numS (zs.take k))) (fun _ i => len - (intOf i).toNat)
    case atStart => exact ⟨0, Nat.zero_le _, rfl, rfl⟩
    case round =>
      obtain ⟨k, hk, rfl, rfl⟩ := hrel
      by_cases hlt : k < len
      · obtain ⟨b, off, rfl, hc⟩ : ∃ b off, a = some ⟨b, off, none⟩ ∧ ∀ j, j < zs.length → w.cell? ⟨b, off + j, none⟩ = some (.int .u8 (zs.getD j 0)) := by
          rcases HC.out with h | h
          · omega
          · exact h
        have hcell := hc k (by omega)
        clear hc
        have hs := numS_in zs k (fun b hb => wf_u8 (HW.out b hb)) (by omega)
        have hsn := Lib.hid (numS_take zs k (by omega))
        have hn := wf_u8 (wf_getD HW.out (j := k) (by omega))
        generalize zs.getD k 0 = z at *
        clear HC HW
        go_wp2
        go_round
        case rel => exact ⟨k + 1, by omega, by go_num, by rw [hsn.out]⟩
        case measure => simp [intOf]; omega
      · go_wp2
        go_ret
        obtain rfl : k = len := by omega
        exact ⟨ret_int (by rw [hfin.out]), rfl⟩
  · obtain ⟨m, rfl⟩ : ∃ m, len = m + 8 := ⟨len - 8, by omega⟩
    have hfin := Lib.hid (fromS_take_long zs m hz)
    obtain ⟨b, off, rfl, hc2⟩ : ∃ b off, a = some ⟨b, off, none⟩ ∧ ∀ j, j < zs.length → w.cell? ⟨b, off + j, none⟩ = some (.int .u8 (zs.getD j 0)) := by
      rcases hc with h | h
      · omega
      · exact h
    have HC : Hid (∀ j, j < (zs.drop m).length → w.cell? ⟨b, off + (m + j), none⟩ = some (.int .u8 ((zs.drop m).getD j 0))) := Lib.hid (by
      intro j hj
      rw [getD_drop]
      exact hc2 (m + j) (by simp at hj; omega))
    have HW : Hid (∀ n ∈ zs.drop m, (Lit.int .u8 n).wf = true) := Lib.hid (fun n hn => hwf n (List.mem_of_mem_drop hn))
    have hz' : 8 ≤ (zs.drop m).length := by simp; omega
    clear hc hc2 hwf
    generalize zs.take (m + 8) = zt at *
    generalize zs.drop m = zd at *
    clear hz
    go_enter Try.func23, Try.ntmps23
    go_wp2
    go_loop [3, 4] (fun t i => ∃ k : Nat, k ≤ 8 ∧ i = .int .i64 ((m + k : Nat) : Int) ∧ t = .int .u64 (numS (zd.take k))) (fun _ i => m + 8 - (intOf i).toNat)
    case atStart => exact ⟨0, Nat.zero_le _, rfl, rfl⟩
    case round =>
      obtain ⟨k, hk, rfl, rfl⟩ := hrel
      by_cases hlt : k < 8
      · have hcell := HC.out k (by omega)
        have hs := numS_in zd k (fun b hb => wf_u8 (HW.out b hb)) (by omega)
        have hsn := Lib.hid (numS_take zd k (by omega))
        have hn := wf_u8 (wf_getD HW.out (j := k) (by omega))
        generalize zd.getD k 0 = z at *
        clear HC HW
        go_wp2
        go_round
        case rel => exact ⟨k + 1, by omega, by go_num, by rw [hsn.out]⟩
        case measure => simp [intOf]; omega
      · obtain rfl : k = 8 := by omega
        go_wp2
        go_ret
        exact ⟨ret_int (by rw [hfin.out]), rfl⟩

set_option maxHeartbeats 400000 in
theorem awake_any (w : World) :
    Calls Try.prog 9 #[] w fun e w' => e = .returned (.bool true) ∧ w' = w.alloc (.cells #[.int .u8 1, .int .u8 0] 5) := by
  have q1 := Lib.hid (show lenS 64 = 7 by decide +kernel)
  have q2 := Lib.hid (show levS 5 70 = 1 by decide +kernel)
  have q3 := Lib.hid (show blkS 70 1 = 1 by decide +kernel)
  have q4 := Lib.hid (show narS 2147483648 = -2147483648 by decide +kernel)
  have q5 := Lib.hid (show fromS (List.take 2 [1, 0]) = 256 by decide +kernel)
  go_enter Try.func9, Try.ntmps9
  go_wp2_with (first
    | (go_at_call 18; refine (narrow_any _ _ (by omega) (by omega)).mono ?_; rintro e w' ⟨rfl, rfl⟩; rw [q4.out])
    | (go_at_call 10; refine (len_any _ _ (by omega) (by omega)).mono ?_; rintro e w' ⟨rfl, rfl⟩; rw [q1.out])
    | (go_at_call 16; refine (level_any _ _ _ (by omega) (by omega) (by omega) (by omega)).mono ?_; rintro e w' ⟨rfl, rfl⟩; rw [q2.out])
    | (go_at_call 14; refine (slot_any _ _ _ (by omega) (by omega) (by omega) (by omega)).mono ?_; rintro e w' ⟨rfl, rfl⟩; rw [q3.out])
    | (go_at_call 12; refine (block_any _ _ _ (by omega) (by omega) (by omega) (by omega)).mono ?_; rintro e w' ⟨rfl, rfl⟩; rw [q3.out]))
  refine (from_any _ _ _ [1, 0] _ ⟨by simp, by decide, .inr ⟨_, _, rfl, ?_⟩, by decide⟩ (by decide) (by decide)).mono ?_
  · intro j hj
    simp at hj
    match j, hj with
    | 0, _ => simp [go_sem]
    | 1, _ => simp [go_sem]
  rintro e w' ⟨rfl, rfl⟩
  rw [q5.out]
  go_wp2
  go_ret
  exact ⟨rfl, rfl⟩
end Go.Proofs.Ytbjehaloimbliaa
