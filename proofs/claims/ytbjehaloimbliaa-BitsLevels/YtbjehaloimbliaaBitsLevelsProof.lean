/- What is proved: BitsLevels of porpoiselaw02 answers true for every input, and leaves its arguments as they were; conditions: those of the given row alone. -/
import Derived.Test.YtbjehaloimbliaaKit
import Derived.Test.YtbjehaloimbliaaRef02
namespace Go.Proofs.Ytbjehaloimbliaa.bitsLevels
open Go.ChangeShapes Go.WideShapes Go.ChangeAt Go.RowKit Go.Deep
open Go.ChangeMaps (open_string shut_string)
set_option linter.unusedVariables false

theorem own : ownKnob Try.prog.godebug = none := by kernel_rfl
theorem laidOut : laidOutB Try.prog = true := by kernel_rfl

theorem mm (x y : Int) : ∃ lo hi, (if x < y then y else x) = hi ∧ (if y < x then y else x) = lo ∧ lo ≤ hi ∧ (lo = x ∨ lo = y) ∧ (hi = x ∨ hi = y) := by
  refine ⟨_, _, rfl, rfl, ?_, ?_, ?_⟩
  · split <;> split <;> omega
  · split <;> simp
  · split <;> simp
theorem lev_self (a : Int) : levS a a = 0 := by unfold levS; rw [if_pos rfl]
theorem blk_0 {t : Int} : blkS t 0 = t := blkS_none (by omega)
/-- What is known of two times of a level. -/
theorem lev_all {a b : Int} (h : a ≤ b) : (levS a b = 0 ∧ blkS a 1 = blkS b 1 ∧ blkS a 0 % 64 ≤ blkS b 0 % 64) ∨
    (levS a b = 1 ∧ blkS a 2 = blkS b 2 ∧ blkS a 1 ≠ blkS b 1 ∧ blkS a 1 % 64 < blkS b 1 % 64) ∨
    (levS a b = 2 ∧ blkS a 3 = blkS b 3 ∧ blkS a 2 ≠ blkS b 2 ∧ blkS a 2 % 64 < blkS b 2 % 64) ∨
    (levS a b = 3 ∧ blkS a 4 = blkS b 4 ∧ blkS a 3 ≠ blkS b 3 ∧ blkS a 3 % 64 < blkS b 3 % 64) ∨
    (levS a b = 4 ∧ blkS a 4 ≠ blkS b 4) := by
  simp only [blk_0, blk_1, blk_2, blk_3, blk_4]
  unfold levS
  by_cases h1 : a / 64 = b / 64
  · rw [if_pos h1]; left; omega
  · rw [if_neg h1]; right
    by_cases h2 : a / 4096 = b / 4096
    · rw [if_pos h2]; left; omega
    · rw [if_neg h2]; right
      by_cases h3 : a / 262144 = b / 262144
      · rw [if_pos h3]; left; omega
      · rw [if_neg h3]; right
        by_cases h4 : a / 16777216 = b / 16777216
        · rw [if_pos h4]; left; omega
        · rw [if_neg h4]; right; exact ⟨rfl, h4⟩

theorem walk (w : World) (a0 : Int) (w0 : (Lit.int .u64 a0).wf = true) (a1 : Int) (w1 : (Lit.int .u64 a1).wf = true) :
    Calls Try.prog 6 #[.int .u64 a0, .int .u64 a1] w fun e w' => e = .returned (.bool true) ∧ Below w.heap.size w w' := by
  have b0 := wf_u64 w0
  have b1 := wf_u64 w1
  clear w0 w1
  obtain ⟨lo, hi, e1, e2, h1, h2, h3⟩ := mm a0 a1
  have g1 : 0 ≤ lo ∧ hi ≤ 18446744073709551615 := by omega
  clear h2 h3
  have ec := Lib.hid (levS_comm hi lo)
  have es := Lib.hid (lev_self a0)
  rcases lev_all h1 with ⟨q, s1, s2⟩ | ⟨q, s1, s2, s3⟩ | ⟨q, s1, s2, s3⟩ | ⟨q, s1, s2, s3⟩ | ⟨q, s2⟩
  · have hq := Lib.hid q
    have hs := Lib.hid s1
    clear q s1
    go_enter Try.func6, Try.ntmps6
    go_wp2_with (first
      | (go_at_call 9; refine (awake_any _).mono ?_; rintro e w' ⟨rfl, rfl⟩)
      | (go_at_call 16; refine (level_any _ _ _ (by omega) (by omega) (by omega) (by omega)).mono ?_; rintro e w' ⟨rfl, rfl⟩; (first | rw [es.out] | (rw [ec.out, hq.out]) | rw [hq.out]))
      | (go_at_call 12; refine (block_any _ _ _ (by omega) (by omega) (by omega) (by omega)).mono ?_; rintro e w' ⟨rfl, rfl⟩; (try rw [hs.out]))
      | (go_at_call 14; refine (slot_any _ _ _ (by omega) (by omega) (by omega) (by omega)).mono ?_; rintro e w' ⟨rfl, rfl⟩))
    go_ret
    exact ⟨ret_bool (by simp), (Below.refl _ _).alloc (Nat.le_refl _) _⟩
  · have hq := Lib.hid q
    have hs := Lib.hid s1
    have hd : (blkS lo 1 == blkS hi 1) = false := beq_eq_false_iff_ne.2 s2
    clear q s1 s2
    go_enter Try.func6, Try.ntmps6
    go_wp2_with (first
      | (go_at_call 9; refine (awake_any _).mono ?_; rintro e w' ⟨rfl, rfl⟩)
      | (go_at_call 16; refine (level_any _ _ _ (by omega) (by omega) (by omega) (by omega)).mono ?_; rintro e w' ⟨rfl, rfl⟩; (first | rw [es.out] | (rw [ec.out, hq.out]) | rw [hq.out]))
      | (go_at_call 12; refine (block_any _ _ _ (by omega) (by omega) (by omega) (by omega)).mono ?_; rintro e w' ⟨rfl, rfl⟩; (try rw [hs.out]))
      | (go_at_call 14; refine (slot_any _ _ _ (by omega) (by omega) (by omega) (by omega)).mono ?_; rintro e w' ⟨rfl, rfl⟩))
    go_ret
    exact ⟨ret_bool (by simp), (Below.refl _ _).alloc (Nat.le_refl _) _⟩
  · have hq := Lib.hid q
    have hs := Lib.hid s1
    have hd : (blkS lo 2 == blkS hi 2) = false := beq_eq_false_iff_ne.2 s2
    clear q s1 s2
    go_enter Try.func6, Try.ntmps6
    go_wp2_with (first
      | (go_at_call 9; refine (awake_any _).mono ?_; rintro e w' ⟨rfl, rfl⟩)
      | (go_at_call 16; refine (level_any _ _ _ (by omega) (by omega) (by omega) (by omega)).mono ?_; rintro e w' ⟨rfl, rfl⟩; (first | rw [es.out] | (rw [ec.out, hq.out]) | rw [hq.out]))
      | (go_at_call 12; refine (block_any _ _ _ (by omega) (by omega) (by omega) (by omega)).mono ?_; rintro e w' ⟨rfl, rfl⟩; (try rw [hs.out]))
      | (go_at_call 14; refine (slot_any _ _ _ (by omega) (by omega) (by omega) (by omega)).mono ?_; rintro e w' ⟨rfl, rfl⟩))
    go_ret
    exact ⟨ret_bool (by simp), (Below.refl _ _).alloc (Nat.le_refl _) _⟩
  · have hq := Lib.hid q
    have hs := Lib.hid s1
    have hd : (blkS lo 3 == blkS hi 3) = false := beq_eq_false_iff_ne.2 s2
    clear q s1 s2
    go_enter Try.func6, Try.ntmps6
    go_wp2_with (first
      | (go_at_call 9; refine (awake_any _).mono ?_; rintro e w' ⟨rfl, rfl⟩)
      | (go_at_call 16; refine (level_any _ _ _ (by omega) (by omega) (by omega) (by omega)).mono ?_; rintro e w' ⟨rfl, rfl⟩; (first | rw [es.out] | (rw [ec.out, hq.out]) | rw [hq.out]))
      | (go_at_call 12; refine (block_any _ _ _ (by omega) (by omega) (by omega) (by omega)).mono ?_; rintro e w' ⟨rfl, rfl⟩; (try rw [hs.out]))
      | (go_at_call 14; refine (slot_any _ _ _ (by omega) (by omega) (by omega) (by omega)).mono ?_; rintro e w' ⟨rfl, rfl⟩))
    go_ret
    exact ⟨ret_bool (by simp), (Below.refl _ _).alloc (Nat.le_refl _) _⟩
  · have hq := Lib.hid q
    have hs := Lib.hid (blk_0 (t := 0))
    have hd : (blkS lo 4 == blkS hi 4) = false := beq_eq_false_iff_ne.2 s2
    clear q s2
    go_enter Try.func6, Try.ntmps6
    go_wp2_with (first
      | (go_at_call 9; refine (awake_any _).mono ?_; rintro e w' ⟨rfl, rfl⟩)
      | (go_at_call 16; refine (level_any _ _ _ (by omega) (by omega) (by omega) (by omega)).mono ?_; rintro e w' ⟨rfl, rfl⟩; (first | rw [es.out] | (rw [ec.out, hq.out]) | rw [hq.out]))
      | (go_at_call 12; refine (block_any _ _ _ (by omega) (by omega) (by omega) (by omega)).mono ?_; rintro e w' ⟨rfl, rfl⟩; (try rw [hs.out]))
      | (go_at_call 14; refine (slot_any _ _ _ (by omega) (by omega) (by omega) (by omega)).mono ?_; rintro e w' ⟨rfl, rfl⟩))
    go_ret
    exact ⟨ret_bool (by simp), (Below.refl _ _).alloc (Nat.le_refl _) _⟩

set_option maxRecDepth 100000 in
theorem lifted (os : Os) (started : os.Started) (H : Type) (enc : TypeId × Value → H) :
    ReturnsInHanded {} Try.checked os 6 .any (Rows.bitsLevelsSpec.pre6 enc Try.prog Try.f6 Rows.bitsLevelsRow.domain false) (Rows.bitsLevelsSpec.post enc Try.prog Try.f6 false true false false) := by
  refine returnsInHanded_of_change_sized (C := Try.checked) own started (by kernel_rfl) Try.func6
    (ChangeSpec.witness6 (enc := enc) (C := Try.checked) false ⟨#[], #[.int .u64 0, .int .u64 0], []⟩ 8 (by kernel_rfl) (by kernel_rfl) (by kernel_rfl) (by kernel_rfl)) ?_
  intro W base args ds gs before hval0 hW hcnd hsz0 _
  have hval : ∀ (j : Nat) t v, Try.f6.params[j]? = some t → args[j]? = some v → Value.okWide Try.prog W .any base t v := hval0
  have hsz : (DataW.weightsEach Try.prog (Try.f6.params.toList ++ Rows.bitsLevelsSpec.plain.varTypes Try.prog) (ds ++ gs)).all (· ≤ reachBytes) = true := hsz0
  have hW' := hW
  obtain ⟨p, q, hA0, hV, rfl, hfz, hnd⟩ := hW
  have hA : DataW.TrodAll enc Try.prog W 0 (fun _ => true) true Try.f6.params.toList args.toList ds p := hA0
  rw [Try.params6] at hA hval hsz
  have hAk := hA
  obtain ⟨v0, vs0, d0, ds0, p0, q0, hargs, rfl, rfl, h0, r0⟩ := trodAll_cons hA
  obtain ⟨v1, vs1, d1, ds1, p1, q1, rfl, rfl, rfl, h1, r1⟩ := trodAll_cons r0
  obtain ⟨rfl, rfl, rfl⟩ := trodAll_nil r1
  obtain rfl : args = #[v0, v1] := by cases args; simp_all
  obtain ⟨rfl, rfl⟩ := trodVars_none hV
  obtain ⟨a0, rfl, rfl, rfl, w0⟩ := open_int Try.underlying22 (hval 0 22 v0 rfl rfl) h0
  obtain ⟨a1, rfl, rfl, rfl, w1⟩ := open_int Try.underlying22 (hval 1 22 v1 rfl rfl) h1
  clear hA0 hval0 hsz0
  refine (walk W a0 w0 a1 w1).mono fun e W' ⟨he, bel⟩ => ?_
  subst he
  exact ⟨_, rfl, _, _, _, [], _, [], hW', trodAll_mk1 (shut_bool Try.underlying4 _), trodAll_below laidOut bel _ _ _ _ (by kernel_rfl) hAk, rfl, bel.frame _, fun h => by cases h⟩

theorem over : Rows.bitsLevelsRow.holds Try.pinned (OpenSpec.ofChange Rows.bitsLevelsSpec) :=
  OpenClaim.holds_of_wide 6 Try.f6 rfl rfl rfl rfl rfl rfl rfl ⟨rfl, rfl, rfl, rfl, rfl⟩ rfl rfl rfl rfl rfl (by kernel_rfl) Try.func6 (by kernel_rfl)
    (of_decide_eq_true (by kernel_rfl)) (by unfold Func.isWrapper; first | (rw [if_pos (by decide +kernel)]; kernel_rfl) | (rw [if_neg (by decide +kernel)]; exact ⟨rfl, rfl⟩))
    (fun os started H enc _ => lifted os started H enc)

theorem proved : Rows.BitsLevelsSaid := over
#print axioms proved
end Go.Proofs.Ytbjehaloimbliaa.bitsLevels
