/- Contracts of package window: Add. -/
import Derived.Test.YtfncipoiblieeaaWin
namespace Go.Proofs.Ytfncipoiblieeaa
set_option linter.unusedVariables false
open Go.ChangeShapes Go.WideShapes Go.ChangeAt Go.RowKit

theorem add_nil (now k n : Int) (w : World) : Calls Try.prog 22 #[.pointer none, .int .u64 now, .int .i64 k, .int .u64 n] w fun r w' => r = .returned (.bool false) ∧ w' = w := by
  go_enter Try.func22, Try.ntmps22
  go_wp2
  go_ret
  exact ⟨rfl, rfl⟩
theorem add_bad (b : Nat) (now k n : Int) (w : World) (hk : k < 0 ∨ 5 ≤ k) : Calls Try.prog 22 #[.pointer (some ⟨b, 0, none⟩), .int .u64 now, .int .i64 k, .int .u64 n] w fun r w' => r = .returned (.bool false) ∧ w' = w := by
  by_cases h1 : k < 0
  · go_enter Try.func22, Try.ntmps22
    go_wp2
    go_ret
    exact ⟨rfl, rfl⟩
  · have h2 : 5 ≤ k := by omega
    go_enter Try.func22, Try.ntmps22
    go_wp2
    go_ret
    exact ⟨rfl, rfl⟩

set_option maxHeartbeats 1000000 in
theorem add_win (b B W t now k : Nat) (n : Int) (F : Cnt) (w : World) (h : Win w b B W t F) (hn : now ≤ 18446744073709551615) (hk : k < 5) (h0 : 0 ≤ n) (h1 : n ≤ 18446744073709551615) :
    Calls Try.prog 22 #[.pointer (some ⟨b, 0, none⟩), .int .u64 now, .int .i64 k, .int .u64 n] w fun r w' => r = .returned (.bool true) ∧ Frm (· = b) w w' ∧
      Win w' b B W (max (now / W) t) (upd F (max (now / W) t) k (addS (F (max (now / W) t) k) n)) := by
  have hr := reach_win b B W t now F w h hn
  obtain ⟨t', ht'⟩ : ∃ t', max (now / W) t = t' := ⟨_, rfl⟩
  rw [ht'] at hr ⊢
  clear ht' h
  have k0 : ¬ (k : Int) < 0 := by omega
  have k5 : ¬ (5 : Int) ≤ (k : Int) := by omega
  have k5' : (k : Int) < 5 := by omega
  go_enter Try.func22, Try.ntmps22
  go_wp2_with fail
  refine hr.mono ?_
  clear hr
  rintro r w1 ⟨rfl, hf, hw⟩
  obtain ⟨Z, hb, hl⟩ := hw.blk
  have hB1 := hw.B1
  have hB8 := hw.B8
  obtain ⟨p, hp⟩ : ∃ p, t' % B = p := ⟨_, rfl⟩
  have hp8 : (p : Int) < 8 := by have := Nat.mod_lt t' (show 0 < B by omega); omega
  generalize hwd : w1.drew = wd
  have hb1 : wd.heap[b]? = some (wobj B W t' Z) := by rw [← hwd]; exact hb
  obtain ⟨c0, _, c2⟩ := wobj_cells hb1
  have hpl := place_any b t' B wd c0 hB1
  rw [hp] at hpl
  have HWD := Lib.hid hwd
  have HF := Lib.hid hf
  have HW := Lib.hid hw
  have HB1 := Lib.hid hb1
  have HL := Lib.hid hl
  have HP := Lib.hid hp
  clear hf hw hb hl hp hb1
  go_wp2
  refine region_tail 10 (by kernel_rfl) (by kernel_rfl) ?_
  simp only [List.take_succ_cons, List.take_zero, List.drop_succ_cons, List.drop_zero]
  rw [HWD.out]
  repeat still_step
  still_call (hpl)
  repeat still_step
  refine wpStill_nil ?_
  clear hpl c0 c2
  generalize hwe : wd.drew = we
  have hb2 : we.heap[b]? = some (wobj B W t' Z) := by rw [← hwe]; exact HB1.out
  have hz : Z[p * 5 + k]? = some (F t' k) := by
    have := HL.out.here t' k (by omega) (by omega) hk
    rwa [HP.out, Nat.mul_comm] at this
  have hbd := HL.out.bd t' k
  have q0 := wobj_cell hb2 hz
  rw [← Nat.add_assoc] at q0
  have q1 := frozen_of hb2 (3 + p * 5 + k)
  have hs := addS_bd hbd.1 h0
  have ha := (add_any (F t' k) n we hbd.1 h0 hbd.2 h1).mono (R' := fun e w' => e = .returned (.int .u64 (addS (F t' k) n)) ∧ w' = we) (fun _ _ h => ⟨h.1, h.2.symm⟩)
  have hlay := HL.out.add (k := k) (x := addS (F t' k) n) hB1 hB8 hk hs
  rw [HP.out, Nat.mul_comm 5 p] at hlay
  have hset := wobj_set hb2 (p * 5 + k) (addS (F t' k) n)
  rw [← Nat.add_assoc] at hset
  have HWE := Lib.hid hwe
  generalize hX : upd F t' k (addS (F t' k) n) = X at hlay
  have HXX := Lib.hid hX
  clear hX hb2 hz
  generalize addS (F t' k) n = x at ha hlay hset hs
  generalize F t' k = y at ha q0 hbd
  have HLY := Lib.hid hlay
  have HST := Lib.hid hset
  clear hlay hset
  go_wp2
  refine region_tail 11 (by kernel_rfl) (by kernel_rfl) ?_
  simp only [List.take_succ_cons, List.take_zero, List.drop_succ_cons, List.drop_zero]
  rw [HWE.out]
  repeat still_step
  still_call (ha)
  repeat still_step
  refine wpStill_nil ?_
  go_wp2
  go_ret
  have hfe : Frm (· = b) w we := by rw [← HWE.out, ← HWD.out]; exact (HF.out.ali (drew_ali _)).ali (drew_ali _)
  refine ⟨rfl, hfe.set (F := (· = b)) (p := ⟨b, _, none⟩) rfl _, ?_⟩
  rw [HXX.out]
  exact ⟨⟨_, HST.out, HLY.out⟩, hB1, hB8, HW.out.W1, HW.out.Wm, HW.out.tm⟩

end Go.Proofs.Ytfncipoiblieeaa
