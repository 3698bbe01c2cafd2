/- Contracts of package bits' functions: what each call returns, the world as it was. -/
import Derived.Test.YtbjehaloimbliaaBitsMath
import Derived.WalkLawsBesides
import Derived.Handy
import Derived.Outline
namespace Go.Proofs.Ytbjehaloimbliaa
set_option linter.unusedVariables false
open Go.ChangeShapes Go.WideShapes Go.ChangeAt Go.RowKit

set_option maxHeartbeats 400000 in
theorem block_any (t l : Int) (w : World) (h : 0 ≤ t) (h' : t ≤ 18446744073709551615) (hl : -9223372036854775808 ≤ l) (hl' : l ≤ 9223372036854775807) :
    Calls Try.prog 12 #[.int .u64 t, .int .i64 l] w fun e w' => e = .returned (.int .u64 (blkS t l)) ∧ w = w' := by
  by_cases h0 : l < 0
  · have e := Lib.hid (blkS_none (t := t) (l := l) (by omega))
    go_enter Try.func12, Try.ntmps12
    go_wp2
    go_ret
    exact ⟨ret_int (by rw [e.out]), rfl⟩
  · by_cases h1 : 11 ≤ l
    · have e := Lib.hid (blkS_high h h' h1)
      by_cases h2 : l = 11
      · subst h2
        go_enter Try.func12, Try.ntmps12
        go_wp2
        go_ret
        exact ⟨ret_int (by rw [e.out]; omega), rfl⟩
      · have h3 : ¬ l ≤ 11 := by omega
        clear h2
        go_enter Try.func12, Try.ntmps12
        go_wp2
        go_ret
        exact ⟨ret_int (by rw [e.out]; omega), rfl⟩
    · have hs := Lib.hid (blkS_shift h h' (l := l) (by omega) (by omega))
      go_enter Try.func12, Try.ntmps12
      go_wp2
      go_ret
      exact ⟨ret_int hs.out, rfl⟩

/-- The table of the lengths below 256, as the library has it. -/
def len8 : ByteArray := ⟨#[0, 1, 2, 2, 3, 3, 3, 3, 4, 4, 4, 4, 4, 4, 4, 4, 5, 5, 5, 5, 5, 5, 5, 5, 5, 5, 5, 5, 5, 5, 5, 5, 6, 6, 6, 6, 6, 6, 6, 6, 6, 6, 6, 6, 6, 6, 6, 6, 6, 6, 6, 6, 6, 6, 6, 6, 6, 6, 6, 6, 6, 6, 6, 6, 7, 7, 7, 7, 7, 7, 7, 7, 7, 7, 7, 7, 7, 7, 7, 7, 7, 7, 7, 7, 7, 7, 7, 7, 7, 7, 7, 7, 7, 7, 7, 7, 7, 7, 7, 7, 7, 7, 7, 7, 7, 7, 7, 7, 7, 7, 7, 7, 7, 7, 7, 7, 7, 7, 7, 7, 7, 7, 7, 7, 7, 7, 7, 7, 8, 8, 8, 8, 8, 8, 8, 8, 8, 8, 8, 8, 8, 8, 8, 8, 8, 8, 8, 8, 8, 8, 8, 8, 8, 8, 8, 8, 8, 8, 8, 8, 8, 8, 8, 8, 8, 8, 8, 8, 8, 8, 8, 8, 8, 8, 8, 8, 8, 8, 8, 8, 8, 8, 8, 8, 8, 8, 8, 8, 8, 8, 8, 8, 8, 8, 8, 8, 8, 8, 8, 8, 8, 8, 8, 8, 8, 8, 8, 8, 8, 8, 8, 8, 8, 8, 8, 8, 8, 8, 8, 8, 8, 8, 8, 8, 8, 8, 8, 8, 8, 8, 8, 8, 8, 8, 8, 8, 8, 8, 8, 8, 8, 8, 8, 8, 8, 8, 8, 8, 8, 8, 8, 8, 8, 8, 8, 8]⟩
set_option maxRecDepth 100000 in
theorem len8_size : len8.size = 256 := by decide +kernel
set_option maxRecDepth 100000 in
theorem len8_all : ∀ i : Fin 256, (len8[i.1]'(by rw [len8_size]; exact i.2)).toNat = lenN i.1 := by decide +kernel
theorem len8_end {x y c : Int} (hy : 0 ≤ y) (hy' : y < 256) (hh : y.toNat < len8.size) (hx : lenS x = c + lenS y) (hb : 0 ≤ c ∧ c ≤ 56) :
    wrap64 (c + wrap64 ((len8[y.toNat]'hh).toNat : Int)) = lenS x := by
  have h1 := len8_all ⟨y.toNat, by omega⟩
  have h2 := lenN_lt 8 (n := y.toNat) (by omega)
  simp only at h1
  rw [h1, hx]
  unfold lenS wrap64
  omega
theorem len8_end0 {x : Int} (hy : 0 ≤ x) (hy' : x < 256) (hh : x.toNat < len8.size) :
    wrap64 (wrap64 ((len8[x.toNat]'hh).toNat : Int)) = lenS x := by
  have := len8_end (x := x) (y := x) (c := 0) hy hy' hh (by omega) (by omega)
  rwa [Int.zero_add] at this

set_option maxRecDepth 100000 in
set_option maxHeartbeats 400000 in
theorem len64_any (x : Int) (w : World) (h : 0 ≤ x) (h' : x ≤ 18446744073709551615) :
    Calls Try.prog 24 #[.int .u64 x] w fun e w' => e = .returned (.int .i64 (lenS x)) ∧ w = w' := by
  by_cases h1 : 4294967296 ≤ x
  · have e := lenS_32 h1
    go_enter Try.func24, Try.ntmps24
    clear e
    go_wp2
    all_goals go_ret
    · exact ⟨ret_int (len8_end (by omega) (by omega) _ (by rw [lenS_32 h1, lenS_16 (by assumption), lenS_8 (by assumption)]; omega) (by omega)), rfl⟩
    · exact ⟨ret_int (len8_end (by omega) (by omega) _ (by rw [lenS_32 h1, lenS_16 (by assumption)]; omega) (by omega)), rfl⟩
    · exact ⟨ret_int (len8_end (by omega) (by omega) _ (by rw [lenS_32 h1, lenS_8 (by assumption)]; omega) (by omega)), rfl⟩
    · exact ⟨ret_int (len8_end (by omega) (by omega) _ (by rw [lenS_32 h1]) (by omega)), rfl⟩
  · go_enter Try.func24, Try.ntmps24
    go_wp2
    all_goals go_ret
    · exact ⟨ret_int (len8_end (by omega) (by omega) _ (by rw [lenS_16 (by assumption), lenS_8 (by assumption)]; omega) (by omega)), rfl⟩
    · exact ⟨ret_int (len8_end (by omega) (by omega) _ (by rw [lenS_16 (by assumption)]) (by omega)), rfl⟩
    · exact ⟨ret_int (len8_end (by omega) (by omega) _ (by rw [lenS_8 (by assumption)]) (by omega)), rfl⟩
    · exact ⟨ret_int (len8_end0 (by omega) (by omega) _), rfl⟩

theorem len_any (x : Int) (w : World) (h : 0 ≤ x) (h' : x ≤ 18446744073709551615) :
    Calls Try.prog 10 #[.int .u64 x] w fun e w' => e = .returned (.int .i64 (lenS x)) ∧ w = w' := by
  go_enter Try.func10, Try.ntmps10
  go_wp2_with (go_at_call 24; refine (len64_any _ _ h h').mono ?_; rintro e w' ⟨rfl, rfl⟩)
  go_ret
  exact ⟨rfl, rfl⟩

theorem slot_any (t l : Int) (w : World) (h : 0 ≤ t) (h' : t ≤ 18446744073709551615) (hl : -9223372036854775808 ≤ l) (hl' : l ≤ 9223372036854775807) :
    Calls Try.prog 14 #[.int .u64 t, .int .i64 l] w fun e w' => e = .returned (.int .i64 (blkS t l % 64)) ∧ w = w' := by
  have hb := blkS_bd l h
  go_enter Try.func14, Try.ntmps14
  go_wp2_with (go_at_call 12; refine (block_any _ _ _ h h' hl hl').mono ?_; rintro e w' ⟨rfl, rfl⟩)
  go_ret
  exact ⟨rfl, rfl⟩

theorem blk_1 {t : Int} : blkS t 1 = t / 64 := rfl
theorem blk_2 {t : Int} : blkS t 2 = t / 4096 := rfl
theorem blk_3 {t : Int} : blkS t 3 = t / 262144 := rfl
theorem blk_4 {t : Int} : blkS t 4 = t / 16777216 := rfl
theorem lev_0 {a b : Int} (h1 : (blkS a 1 == blkS b 1) = true) : 0 = levS a b := by
  have h1' := eq_of_beq h1
  rw [blk_1, blk_1] at h1'
  unfold levS; rw [if_pos h1']
theorem lev_1 {a b : Int} (h1 : (blkS a 1 == blkS b 1) = false) (h2 : (blkS a 2 == blkS b 2) = true) : 1 = levS a b := by
  have h1' := ne_of_beq_false h1
  rw [blk_1, blk_1] at h1'
  have h2' := eq_of_beq h2
  rw [blk_2, blk_2] at h2'
  unfold levS; rw [if_neg h1', if_pos h2']
theorem lev_2 {a b : Int} (h1 : (blkS a 1 == blkS b 1) = false) (h2 : (blkS a 2 == blkS b 2) = false) (h3 : (blkS a 3 == blkS b 3) = true) : 2 = levS a b := by
  have h1' := ne_of_beq_false h1
  rw [blk_1, blk_1] at h1'
  have h2' := ne_of_beq_false h2
  rw [blk_2, blk_2] at h2'
  have h3' := eq_of_beq h3
  rw [blk_3, blk_3] at h3'
  unfold levS; rw [if_neg h1', if_neg h2', if_pos h3']
theorem lev_3 {a b : Int} (h1 : (blkS a 1 == blkS b 1) = false) (h2 : (blkS a 2 == blkS b 2) = false) (h3 : (blkS a 3 == blkS b 3) = false) (h4 : (blkS a 4 == blkS b 4) = true) : 3 = levS a b := by
  have h1' := ne_of_beq_false h1
  rw [blk_1, blk_1] at h1'
  have h2' := ne_of_beq_false h2
  rw [blk_2, blk_2] at h2'
  have h3' := ne_of_beq_false h3
  rw [blk_3, blk_3] at h3'
  have h4' := eq_of_beq h4
  rw [blk_4, blk_4] at h4'
  unfold levS; rw [if_neg h1', if_neg h2', if_neg h3', if_pos h4']
theorem lev_4 {a b : Int} (h1 : (blkS a 1 == blkS b 1) = false) (h2 : (blkS a 2 == blkS b 2) = false) (h3 : (blkS a 3 == blkS b 3) = false) (h4 : (blkS a 4 == blkS b 4) = false) : 4 = levS a b := by
  have h1' := ne_of_beq_false h1
  rw [blk_1, blk_1] at h1'
  have h2' := ne_of_beq_false h2
  rw [blk_2, blk_2] at h2'
  have h3' := ne_of_beq_false h3
  rw [blk_3, blk_3] at h3'
  have h4' := ne_of_beq_false h4
  rw [blk_4, blk_4] at h4'
  unfold levS; rw [if_neg h1', if_neg h2', if_neg h3', if_neg h4']

set_option maxHeartbeats 400000 in
theorem level_any (a b : Int) (w : World) (ha : 0 ≤ a) (ha' : a ≤ 18446744073709551615) (hb : 0 ≤ b) (hb' : b ≤ 18446744073709551615) :
    Calls Try.prog 16 #[.int .u64 a, .int .u64 b] w fun e w' => e = .returned (.int .i64 (levS a b)) ∧ w = w' := by
  go_enter Try.func16, Try.ntmps16
  go_wp2
  refine wp_loop_rounds 5 ?_
  repeat any_goals (rw [rounds_succ]; go_wp2_with (go_at_call 12; refine (block_any _ _ _ (by omega) (by omega) (by omega) (by omega)).mono ?_; rintro e w' ⟨rfl, rfl⟩))
  all_goals go_ret
  · exact ⟨ret_int (lev_0 (by assumption)), rfl⟩
  · exact ⟨ret_int (lev_1 (by assumption) (by assumption)), rfl⟩
  · exact ⟨ret_int (lev_2 (by assumption) (by assumption) (by assumption)), rfl⟩
  · exact ⟨ret_int (lev_3 (by assumption) (by assumption) (by assumption) (by assumption)), rfl⟩
  · exact ⟨ret_int (lev_4 (by assumption) (by assumption) (by assumption) (by assumption)), rfl⟩

theorem ret_tuple2 {k : IntKind} {a b : Int} {c d : Bool} (h : a = b) (g : c = d) : Ending.returned (.tuple #[.int k a, .bool c]) = .returned (.tuple #[.int k b, .bool d]) := by rw [h, g]
theorem narrow_any (x : Int) (w : World) (_h : -9223372036854775808 ≤ x) (_h' : x ≤ 9223372036854775807) :
    Calls Try.prog 18 #[.int .i64 x] w fun e w' => e = .returned (.tuple #[.int .i32 (narS x), .bool (narS x == x)]) ∧ w = w' := by
  have hn : Hid (wrap32 x = narS x) := Lib.hid (by unfold wrap32 narS; rfl)
  have hr : -2147483648 ≤ wrap32 x ∧ wrap32 x ≤ 2147483647 := by unfold wrap32; omega
  go_enter Try.func18, Try.ntmps18
  go_wp2
  go_ret2
  exact ⟨ret_tuple2 hn.out (by rw [hn.out]), rfl⟩

theorem bytes_eq {x : Int} (h : 0 ≤ x) (h' : x ≤ 18446744073709551615) : (#[.int .u8 (x / 256 / 256 / 256 / 256 / 256 / 256 / 256), .int .u8 (x / 256 / 256 / 256 / 256 / 256 / 256 % 256), .int .u8 (x / 256 / 256 / 256 / 256 / 256 % 256), .int .u8 (x / 256 / 256 / 256 / 256 % 256), .int .u8 (x / 256 / 256 / 256 % 256), .int .u8 (x / 256 / 256 % 256), .int .u8 (x / 256 % 256), .int .u8 (x % 256)] : Array Value) = bytesA x := by
  unfold bytesA
  simp only [Array.mk.injEq, List.cons.injEq, Value.int.injEq, true_and, and_true]
  omega
set_option maxHeartbeats 1000000 in
theorem bytes_any (x : Int) (w : World) (h : 0 ≤ x) (h' : x ≤ 18446744073709551615) :
    Calls Try.prog 20 #[.int .u64 x] w fun e w' => e = .returned (.agg (bytesA x)) ∧ Below w.heap.size w w' := by
  go_enter Try.func20, Try.ntmps20
  go_wp2
  refine wp_loop_rounds 9 ?_
  repeat any_goals (rw [rounds_succ]; go_wp2)
  refine bodyPost_ret (v := .agg _) (by simp [results, Try.results20, go_sem]; rfl) rfl ⟨?_, ((Below.refl _ _).alloc (Nat.le_refl _) _).alloc (by simp) _⟩
  rw [bytes_eq h h']

theorem wf_u8 {n : Int} (h : (Lit.int .u8 n).wf = true) : 0 ≤ n ∧ n ≤ 255 := by
  have := bounds_u8 h
  omega
theorem getD_drop (zs : List Int) (m j : Nat) : (zs.drop m).getD j 0 = zs.getD (m + j) 0 := by simp [List.getD]

set_option maxHeartbeats 1000000 in
theorem from_any (a : Option Addr) (len cap : Nat) (zs : List Int) (w : World) (h : Row .u8 w a len zs) (hlc : len ≤ cap) (hcm : cap ≤ maxLen) :
    Calls Try.prog 22 #[.slice a len cap] w fun e w' => e = .returned (.int .u64 (fromS (zs.take len))) ∧ w = w' := by
  obtain ⟨hz, hm, hc, hwf⟩ := h
  unfold maxLen at hm hcm
  by_cases h8 : len ≤ 8
  · have hfin := Lib.hid (fromS_take_short zs len h8)
    have HC := Lib.hid hc
    have HW := Lib.hid hwf
    clear hc hwf
    go_enter Try.func22, Try.ntmps22
    go_wp2
    go_loop [4, 15] (fun t i => ∃ k : Nat, k ≤ len ∧ i = .int .i64 k ∧ t = .int .u64 (numS (zs.take k))) (fun _ i => len - (intOf i).toNat)
    case atStart => exact ⟨0, Nat.zero_le _, rfl, rfl⟩
    case round =>
      obtain ⟨k, hk, rfl, rfl⟩ := hrel
      by_cases hlt : k < len
      · obtain ⟨b, off, rfl, hc⟩ : ∃ b off, a = some ⟨b, off, none⟩ ∧ ∀ j, j < zs.length → w.cell? ⟨b, off + j, none⟩ = some (.int .u8 (zs.getD j 0)) := by
          rcases HC.out with h | h
          · omega
          · exact h
        have hcell := hc k (by omega)
        clear hc
        have hs := numS_in zs k (fun b hb => wf_u8 (HW.out b hb)) (by omega)
        have hsn := Lib.hid (numS_take zs k (by omega))
        have hn := wf_u8 (wf_getD HW.out (j := k) (by omega))
        generalize zs.getD k 0 = z at *
        have ho := or_byte hs.1 hs.2 hn.1 hn.2
        clear HC HW
        go_wp2
        go_round
        case rel => exact ⟨k + 1, by omega, by go_num, by rw [hsn.out]⟩
        case measure => simp [intOf]; omega
      · go_wp2
        go_ret
        obtain rfl : k = len := by omega
        exact ⟨ret_int (by rw [hfin.out]), rfl⟩
  · obtain ⟨m, rfl⟩ : ∃ m, len = m + 8 := ⟨len - 8, by omega⟩
    have hfin := Lib.hid (fromS_take_long zs m hz)
    obtain ⟨b, off, rfl, hc2⟩ : ∃ b off, a = some ⟨b, off, none⟩ ∧ ∀ j, j < zs.length → w.cell? ⟨b, off + j, none⟩ = some (.int .u8 (zs.getD j 0)) := by
      rcases hc with h | h
      · omega
      · exact h
    have HC : Hid (∀ j, j < (zs.drop m).length → w.cell? ⟨b, off + m + j, none⟩ = some (.int .u8 ((zs.drop m).getD j 0))) := Lib.hid (by
      intro j hj
      rw [getD_drop, Nat.add_assoc]
      exact hc2 (m + j) (by simp at hj; omega))
    have HW : Hid (∀ n ∈ zs.drop m, (Lit.int .u8 n).wf = true) := Lib.hid (fun n hn => hwf n (List.mem_of_mem_drop hn))
    have hz' : 8 ≤ (zs.drop m).length := by simp; omega
    clear hc hc2 hwf
    generalize zs.take (m + 8) = zt at *
    generalize zs.drop m = zd at *
    clear hz
    go_enter Try.func22, Try.ntmps22
    go_wp2
    go_loop [4, 15] (fun t i => ∃ k : Nat, k ≤ 8 ∧ i = .int .i64 k ∧ t = .int .u64 (numS (zd.take k))) (fun _ i => 8 - (intOf i).toNat)
    case atStart => exact ⟨0, Nat.zero_le _, rfl, rfl⟩
    case round =>
      obtain ⟨k, hk, rfl, rfl⟩ := hrel
      by_cases hlt : k < 8
      · have hcell := HC.out k (by omega)
        have hs := numS_in zd k (fun b hb => wf_u8 (HW.out b hb)) (by omega)
        have hsn := Lib.hid (numS_take zd k (by omega))
        have hn := wf_u8 (wf_getD HW.out (j := k) (by omega))
        generalize zd.getD k 0 = z at *
        have ho := or_byte hs.1 hs.2 hn.1 hn.2
        clear HC HW
        go_wp2
        go_round
        case rel => exact ⟨k + 1, by omega, by go_num, by rw [hsn.out]⟩
        case measure => simp [intOf]; omega
      · go_wp2
        go_ret
        obtain rfl : k = 8 := by omega
        exact ⟨ret_int (by rw [hfin.out]), rfl⟩
end Go.Proofs.Ytbjehaloimbliaa
