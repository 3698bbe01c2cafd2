/- Plain lists and numbers behind package wheel: where a timer stands, what comes first; nothing of the program. -/
import Derived.Test.YtgpebbopggmgbaaBitsMath
namespace Go.Proofs.Ytgpebbopggmgbaa
set_option linter.unusedVariables false

/-- A timer that is there: the block of its entry, its kind and number, when it is due. -/
structure Ent where
  g : Nat
  k : Int
  i : Int
  d : Int

/-- The lowest six bits of a time without the levels below. -/
def slS (d l : Int) : Int := blkS d l % 64
/-- Of a level and a time: the list's number, 256 is that of those that are farther. -/
def ixl (l d : Int) : Nat := if 4 ≤ l then 256 else (l * 64 + slS d l).toNat
/-- Where a timer stands that is due at d, as it is now. -/
def ix (now d : Int) : Nat := ixl (levS now d) d

theorem slS_bd (d l : Int) : 0 ≤ slS d l ∧ slS d l < 64 := by unfold slS; omega
theorem slS_0 (d : Int) : slS d 0 = d % 64 := by unfold slS blkS; simp
theorem slS_1 (d : Int) : slS d 1 = d / 64 % 64 := rfl
theorem slS_2 (d : Int) : slS d 2 = d / 4096 % 64 := rfl
theorem slS_3 (d : Int) : slS d 3 = d / 262144 % 64 := rfl
theorem ixl_lt {l : Int} (h : 0 ≤ l) (d : Int) : ixl l d < 257 := by
  have := slS_bd d l
  unfold ixl
  split <;> omega
theorem ix_lt (now d : Int) : ix now d < 257 := ixl_lt (levS_bd _ _).1 _
theorem ixl_near {l : Int} (h : 0 ≤ l) (h' : l < 4) (d : Int) : (ixl l d : Int) = l * 64 + slS d l := by
  have := slS_bd d l
  unfold ixl
  rw [if_neg (by omega)]
  omega
theorem ix_level {now d : Int} {l s : Nat} (hl : l < 4) (hs : s < 64) (h : ix now d = l * 64 + s) : levS now d = l ∧ slS d l = s := by
  have hb := levS_bd now d
  by_cases h4 : 4 ≤ levS now d
  · unfold ix ixl at h
    rw [if_pos h4] at h
    omega
  · have hn := ixl_near hb.1 (by omega) d
    have hsl := slS_bd d (levS now d)
    unfold ix at h
    have e : levS now d = l := by omega
    rw [← e]
    omega
theorem ix_far {now d : Int} (h : ix now d = 256) : levS now d = 4 := by
  have hb := levS_bd now d
  have hsl := slS_bd d (levS now d)
  unfold ix ixl at h
  split at h <;> omega

theorem lev_mono {now d to : Int} (h : now ≤ d) (h' : d ≤ to) : levS now d ≤ levS now to := by
  unfold levS
  repeat' split
  all_goals omega

theorem turn_zero {now to d : Int} (h : now ≤ to) (h' : to ≤ d) (h0 : levS now to = 0) : ix to d = ix now d := by
  have e : levS to d = levS now d := by
    unfold levS at *
    repeat' split at h0
    all_goals first | omega | (repeat' split) <;> omega
  unfold ix; rw [e]
theorem turn_same {now to d : Int} (h : now ≤ to) (h' : to ≤ d) (hj : ix now d ≠ ixl (levS now to) to) : ix to d = ix now d := by
  have hm := lev_mono (now := now) (d := to) (to := d) h h'
  have hb := levS_bd now to
  have hd := levS_bd now d
  have e : levS to d = levS now d := by
    by_cases hl : levS now d = levS now to
    · rcases (show levS now to = 0 ∨ levS now to = 1 ∨ levS now to = 2 ∨ levS now to = 3 ∨ levS now to = 4 by omega) with e | e | e | e | e
      · rw [hl, e]
        unfold levS at *
        repeat' split at e
        all_goals first | omega | (repeat' split at hl) <;> first | omega | (repeat' split) <;> omega
      · have hs : slS d 1 ≠ slS to 1 := fun hs => hj (by unfold ix ixl; rw [hl, e, hs])
        rw [slS_1, slS_1] at hs
        rw [hl, e]
        rw [e] at hl
        unfold levS at *
        repeat' split at e
        all_goals first | omega | (repeat' split at hl) <;> first | omega | (repeat' split) <;> omega
      · have hs : slS d 2 ≠ slS to 2 := fun hs => hj (by unfold ix ixl; rw [hl, e, hs])
        rw [slS_2, slS_2] at hs
        rw [hl, e]
        rw [e] at hl
        unfold levS at *
        repeat' split at e
        all_goals first | omega | (repeat' split at hl) <;> first | omega | (repeat' split) <;> omega
      · have hs : slS d 3 ≠ slS to 3 := fun hs => hj (by unfold ix ixl; rw [hl, e, hs])
        rw [slS_3, slS_3] at hs
        rw [hl, e]
        rw [e] at hl
        unfold levS at *
        repeat' split at e
        all_goals first | omega | (repeat' split at hl) <;> first | omega | (repeat' split) <;> omega
      · exact absurd (by unfold ix ixl; rw [hl, e]; rfl) hj
    · have hlt : levS now to < levS now d := by omega
      unfold levS at hlt ⊢
      repeat' split at hlt
      all_goals first | omega | (repeat' split) <;> omega
  unfold ix; rw [e]

/-- At one level the slots' order is that of the times. -/
theorem slot_order {now d d' : Int} {l : Nat} (hl : l < 4) (h : levS now d = l) (h' : levS now d' = l) (hs : slS d l < slS d' l) : d < d' := by
  rcases (show l = 0 ∨ l = 1 ∨ l = 2 ∨ l = 3 by omega) with rfl | rfl | rfl | rfl
  · have e1 : d / 64 = d' / 64 := by
      unfold levS at h h'
      repeat' split at h
      all_goals first | omega | (repeat' split at h') <;> omega
    simp only [Int.natCast_zero, slS_0] at hs
    omega
  · have e1 : d / 4096 = d' / 4096 := by
      unfold levS at h h'
      repeat' split at h
      all_goals first | omega | (repeat' split at h') <;> omega
    have hs' : d / 64 % 64 < d' / 64 % 64 := hs
    omega
  · have e1 : d / 262144 = d' / 262144 := by
      unfold levS at h h'
      repeat' split at h
      all_goals first | omega | (repeat' split at h') <;> omega
    have hs' : d / 4096 % 64 < d' / 4096 % 64 := hs
    omega
  · have e1 : d / 16777216 = d' / 16777216 := by
      unfold levS at h h'
      repeat' split at h
      all_goals first | omega | (repeat' split at h') <;> omega
    have hs' : d / 262144 % 64 < d' / 262144 % 64 := hs
    omega
theorem slot_zero {now d d' : Int} (h : levS now d = 0) (h' : levS now d' = 0) (hs : slS d 0 = slS d' 0) : d = d' := by
  have e1 : d / 64 = d' / 64 := by
    unfold levS at h h'
    repeat' split at h
    all_goals first | omega | (repeat' split at h') <;> omega
  simp only [slS_0] at hs
  omega

end Go.Proofs.Ytgpebbopggmgbaa
