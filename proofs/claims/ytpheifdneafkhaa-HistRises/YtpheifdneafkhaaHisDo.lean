/- Contracts of package hist: Bin, Top, Add. -/
import Derived.Test.YtpheifdneafkhaaHis
import Derived.Test.YtpheifdneafkhaaBitsLen
namespace Go.Proofs.Ytpheifdneafkhaa
set_option linter.unusedVariables false
open Go.ChangeShapes Go.WideShapes Go.ChangeAt Go.RowKit

theorem bin_any (x : Int) (w : World) (h : 0 ≤ x) (h' : x ≤ 18446744073709551615) :
    Calls Try.prog 11 #[.int .u64 x] w fun e w' => e = .returned (.int .i64 (lenS x)) ∧ w = w' := by
  go_enter Try.func11, Try.ntmps11
  go_wp2_with (go_at_call 23; refine (len_any _ _ h h').mono ?_; rintro e w' ⟨rfl, rfl⟩)
  go_ret
  exact ⟨rfl, rfl⟩

/-- The longest time of a bin. -/
def topN (b : Nat) : Int := 2 ^ b - 1
def topS (bin : Int) : Int := topN (if bin < 0 then 0 else if 64 < bin then 64 else bin.toNat)
theorem shift_fin : ∀ b : Fin 65, (18446744073709551615 : Int) / 2 ^ (64 - b.1) = topN b.1 := by decide +kernel
theorem shift_top {b : Nat} (h : b ≤ 64) : (18446744073709551615 : Int) / 2 ^ (64 - b) = topN b := shift_fin ⟨b, by omega⟩
theorem topS_nat {b : Nat} (h : b ≤ 64) : topS b = topN b := by unfold topS; rw [if_neg (by omega), if_neg (by omega), Int.toNat_natCast]
set_option maxHeartbeats 400000 in
theorem top_any (bin : Int) (w : World) (h : -9223372036854775808 ≤ bin) (h' : bin ≤ 9223372036854775807) :
    Calls Try.prog 12 #[.int .i64 bin] w fun e w' => e = .returned (.int .u64 (topS bin)) ∧ w = w' := by
  go_enter Try.func12, Try.ntmps12
  go_wp2
  all_goals go_ret
  · exact ⟨ret_int (by unfold topS; rw [if_neg (by omega), if_pos (by omega)]; rfl), rfl⟩
  · exact ⟨ret_int (by unfold topS; rw [if_pos (by omega)]; rfl), rfl⟩
  · exact ⟨ret_int (by unfold topS; rw [if_neg (by omega), if_neg (by omega), ← shift_top (b := bin.toNat) (by omega), show (64 - bin).toNat = 64 - bin.toNat by omega]), rfl⟩

theorem hadd_nil (now took : Int) (w : World) : Calls Try.prog 17 #[.pointer none, .int .u64 now, .int .u64 took] w fun r w' => r = .returned (.tuple #[]) ∧ w' = w := by
  go_enter Try.func17, Try.ntmps17
  go_wp2
  refine bodyPost_ret (results_none rfl _ _ _) rfl ?_
  exact ⟨rfl, rfl⟩

set_option maxRecDepth 100000 in
set_option maxHeartbeats 1000000 in
theorem hadd_his (b B W t now k : Nat) (took : Int) (F : Cnt) (w : World) (h : His w b B W t F) (hn : now ≤ 18446744073709551615) (h0 : 0 ≤ took) (h1 : took ≤ 18446744073709551615) (hk : lenS took = k) :
    Calls Try.prog 17 #[.pointer (some ⟨b, 0, none⟩), .int .u64 now, .int .u64 took] w fun r w' => r = .returned (.tuple #[]) ∧ Frm (· = b) w w' ∧
      His w' b B W (max (now / W) t) (upd F (max (now / W) t) k (addS (F (max (now / W) t) k) 1)) := by
  have hr := reach_his b B W t now F w h hn
  obtain ⟨t', ht'⟩ : ∃ t', max (now / W) t = t' := ⟨_, rfl⟩
  rw [ht'] at hr ⊢
  clear ht' h
  have hk64 : k ≤ 64 := by have := lenS_bd h0 h1; omega
  have hk5 : (k : Int) < 65 := by omega
  have HK := Lib.hid hk
  clear hk
  go_enter Try.func17, Try.ntmps17
  go_wp2_with fail
  refine hr.mono ?_
  clear hr
  rintro r w1 ⟨rfl, hf, hw⟩
  obtain ⟨Z, hb, hl⟩ := hw.blk
  have hB1 := hw.B1
  have hB8 := hw.B8
  obtain ⟨p, hp⟩ : ∃ p, t' % B = p := ⟨_, rfl⟩
  have hp8 : (p : Int) < 8 := by have := Nat.mod_lt t' (show 0 < B by omega); omega
  generalize hwd : w1.drew = wd
  have hb1 : wd.heap[b]? = some (oobj B W t' Z) := by rw [← hwd]; exact hb
  obtain ⟨c0, _, c2⟩ := oobj_cells hb1
  have hpl := hplace_any b t' B wd c0 hB1
  rw [hp] at hpl
  have hbn := (bin_any took wd h0 h1).mono (R' := fun e w' => e = .returned (.int .i64 k) ∧ w' = wd) (fun _ _ h => ⟨by rw [h.1, HK.out], h.2.symm⟩)
  have HWD := Lib.hid hwd
  have HF := Lib.hid hf
  have HW := Lib.hid hw
  have HB1 := Lib.hid hb1
  have HL := Lib.hid hl
  have HP := Lib.hid hp
  have hz : Z[p * 65 + k]? = some (F t' k) := by
    have := hl.here t' k (by omega) (by omega) (by omega)
    rwa [hp, Nat.mul_comm] at this
  have hbd := hl.bd t' k
  have q0 := oobj_cell hb1 hz
  rw [← Nat.add_assoc] at q0
  have q1 := frozen_of hb1 (3 + p * 65 + k)
  have hs := addS_bd hbd.1 (show (0 : Int) ≤ 1 by omega)
  have ha := add_any (F t' k) 1 wd hbd.1 (by omega) hbd.2 (by omega)
  have hlay := hl.add (k := k) (x := addS (F t' k) 1) hB1 hB8 (by omega) hs
  rw [hp, Nat.mul_comm 65 p] at hlay
  have hset := oobj_set hb1 (p * 65 + k) (addS (F t' k) 1)
  rw [← Nat.add_assoc] at hset
  generalize hX : upd F t' k (addS (F t' k) 1) = X at hlay
  have HXX := Lib.hid hX
  clear hX hz hf hw hb hl hp hb1
  generalize addS (F t' k) 1 = x at ha hlay hset hs
  generalize F t' k = y at ha q0 hbd
  have HLY := Lib.hid hlay
  have HST := Lib.hid hset
  clear hlay hset
  go_wp2
  refine region_tail 13 (by kernel_rfl) (by kernel_rfl) ?_
  simp only [List.take_succ_cons, List.take_zero, List.drop_succ_cons, List.drop_zero]
  rw [HWD.out]
  repeat still_step
  still_call (hpl)
  repeat still_step
  still_call (hbn)
  repeat still_step
  refine wpStill_nil ?_
  clear hpl hbn c0 c2
  go_wp2_with (go_at_call 25; refine ha.mono ?_; rintro e w' ⟨rfl, rfl⟩)
  go_end0
  have hfe : Frm (· = b) w wd := by rw [← HWD.out]; exact HF.out.ali (drew_ali _)
  refine ⟨rfl, hfe.set (F := (· = b)) (p := ⟨b, _, none⟩) rfl _, ?_⟩
  rw [HXX.out]
  exact ⟨⟨_, HST.out, HLY.out⟩, hB1, hB8, HW.out.W1, HW.out.Wm, HW.out.tm⟩
end Go.Proofs.Ytpheifdneafkhaa
