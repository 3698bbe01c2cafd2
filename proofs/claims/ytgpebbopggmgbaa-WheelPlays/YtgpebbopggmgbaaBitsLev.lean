/- Contracts of package bits' functions Block, Slot, Level: what each call returns, the world as it was. -/
import Derived.Test.YtgpebbopggmgbaaBitsMath
import Derived.WalkLawsBesides
import Derived.Handy
import Derived.Outline
namespace Go.Proofs.Ytgpebbopggmgbaa
set_option linter.unusedVariables false
open Go.ChangeShapes Go.WideShapes Go.ChangeAt Go.RowKit

set_option maxHeartbeats 400000 in
theorem block_any (t l : Int) (w : World) (h : 0 ≤ t) (h' : t ≤ 18446744073709551615) (hl : -9223372036854775808 ≤ l) (hl' : l ≤ 9223372036854775807) :
    Calls Try.prog 36 #[.int .u64 t, .int .i64 l] w fun e w' => e = .returned (.int .u64 (blkS t l)) ∧ w = w' := by
  by_cases h0 : l < 0
  · have e := Lib.hid (blkS_none (t := t) (l := l) (by omega))
    go_enter Try.func36, Try.ntmps36
    go_wp2
    go_ret
    exact ⟨ret_int (by rw [e.out]), rfl⟩
  · by_cases h1 : 11 ≤ l
    · have e := Lib.hid (blkS_high h h' h1)
      by_cases h2 : l = 11
      · subst h2
        go_enter Try.func36, Try.ntmps36
        go_wp2
        go_ret
        exact ⟨ret_int (by rw [e.out]; omega), rfl⟩
      · have h3 : ¬ l ≤ 11 := by omega
        clear h2
        go_enter Try.func36, Try.ntmps36
        go_wp2
        go_ret
        exact ⟨ret_int (by rw [e.out]; omega), rfl⟩
    · have hs := Lib.hid (blkS_shift h h' (l := l) (by omega) (by omega))
      go_enter Try.func36, Try.ntmps36
      go_wp2
      go_ret
      exact ⟨ret_int hs.out, rfl⟩

theorem slot_any (t l : Int) (w : World) (h : 0 ≤ t) (h' : t ≤ 18446744073709551615) (hl : -9223372036854775808 ≤ l) (hl' : l ≤ 9223372036854775807) :
    Calls Try.prog 39 #[.int .u64 t, .int .i64 l] w fun e w' => e = .returned (.int .i64 (blkS t l % 64)) ∧ w = w' := by
  have hb := blkS_bd l h
  go_enter Try.func39, Try.ntmps39
  go_wp2_with (go_at_call 36; refine (block_any _ _ _ h h' hl hl').mono ?_; rintro e w' ⟨rfl, rfl⟩)
  go_ret
  exact ⟨rfl, rfl⟩

theorem blk_1 {t : Int} : blkS t 1 = t / 64 := rfl
theorem blk_2 {t : Int} : blkS t 2 = t / 4096 := rfl
theorem blk_3 {t : Int} : blkS t 3 = t / 262144 := rfl
theorem blk_4 {t : Int} : blkS t 4 = t / 16777216 := rfl
theorem lev_0 {a b : Int} (h1 : (blkS a 1 == blkS b 1) = true) : 0 = levS a b := by
  have h1' := eq_of_beq h1
  rw [blk_1, blk_1] at h1'
  unfold levS; rw [if_pos h1']
theorem lev_1 {a b : Int} (h1 : (blkS a 1 == blkS b 1) = false) (h2 : (blkS a 2 == blkS b 2) = true) : 1 = levS a b := by
  have h1' := ne_of_beq_false h1
  rw [blk_1, blk_1] at h1'
  have h2' := eq_of_beq h2
  rw [blk_2, blk_2] at h2'
  unfold levS; rw [if_neg h1', if_pos h2']
theorem lev_2 {a b : Int} (h1 : (blkS a 1 == blkS b 1) = false) (h2 : (blkS a 2 == blkS b 2) = false) (h3 : (blkS a 3 == blkS b 3) = true) : 2 = levS a b := by
  have h1' := ne_of_beq_false h1
  rw [blk_1, blk_1] at h1'
  have h2' := ne_of_beq_false h2
  rw [blk_2, blk_2] at h2'
  have h3' := eq_of_beq h3
  rw [blk_3, blk_3] at h3'
  unfold levS; rw [if_neg h1', if_neg h2', if_pos h3']
theorem lev_3 {a b : Int} (h1 : (blkS a 1 == blkS b 1) = false) (h2 : (blkS a 2 == blkS b 2) = false) (h3 : (blkS a 3 == blkS b 3) = false) (h4 : (blkS a 4 == blkS b 4) = true) : 3 = levS a b := by
  have h1' := ne_of_beq_false h1
  rw [blk_1, blk_1] at h1'
  have h2' := ne_of_beq_false h2
  rw [blk_2, blk_2] at h2'
  have h3' := ne_of_beq_false h3
  rw [blk_3, blk_3] at h3'
  have h4' := eq_of_beq h4
  rw [blk_4, blk_4] at h4'
  unfold levS; rw [if_neg h1', if_neg h2', if_neg h3', if_pos h4']
theorem lev_4 {a b : Int} (h1 : (blkS a 1 == blkS b 1) = false) (h2 : (blkS a 2 == blkS b 2) = false) (h3 : (blkS a 3 == blkS b 3) = false) (h4 : (blkS a 4 == blkS b 4) = false) : 4 = levS a b := by
  have h1' := ne_of_beq_false h1
  rw [blk_1, blk_1] at h1'
  have h2' := ne_of_beq_false h2
  rw [blk_2, blk_2] at h2'
  have h3' := ne_of_beq_false h3
  rw [blk_3, blk_3] at h3'
  have h4' := ne_of_beq_false h4
  rw [blk_4, blk_4] at h4'
  unfold levS; rw [if_neg h1', if_neg h2', if_neg h3', if_neg h4']

set_option maxHeartbeats 400000 in
theorem level_any (a b : Int) (w : World) (ha : 0 ≤ a) (ha' : a ≤ 18446744073709551615) (hb : 0 ≤ b) (hb' : b ≤ 18446744073709551615) :
    Calls Try.prog 29 #[.int .u64 a, .int .u64 b] w fun e w' => e = .returned (.int .i64 (levS a b)) ∧ w = w' := by
  go_enter Try.func29, Try.ntmps29
  go_wp2
  refine wp_loop_rounds 5 ?_
  repeat any_goals (rw [rounds_succ]; go_wp2_with (go_at_call 36; refine (block_any _ _ _ (by omega) (by omega) (by omega) (by omega)).mono ?_; rintro e w' ⟨rfl, rfl⟩))
  all_goals go_ret
  · exact ⟨ret_int (lev_0 (by assumption)), rfl⟩
  · exact ⟨ret_int (lev_1 (by assumption) (by assumption)), rfl⟩
  · exact ⟨ret_int (lev_2 (by assumption) (by assumption) (by assumption)), rfl⟩
  · exact ⟨ret_int (lev_3 (by assumption) (by assumption) (by assumption) (by assumption)), rfl⟩
  · exact ⟨ret_int (lev_4 (by assumption) (by assumption) (by assumption) (by assumption)), rfl⟩

end Go.Proofs.Ytgpebbopggmgbaa
