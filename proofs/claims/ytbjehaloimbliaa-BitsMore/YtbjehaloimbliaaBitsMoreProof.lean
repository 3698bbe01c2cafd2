/- What is proved: BitsMore of porpoiselaw02 answers true for every input, and leaves its arguments as they were; conditions: those of the given row alone. -/
import Derived.Test.YtbjehaloimbliaaKit
import Derived.Test.YtbjehaloimbliaaRef02
import Derived.Test.YtbjehaloimbliaaApp
namespace Go.Proofs.Ytbjehaloimbliaa.bitsMore
open Go.ChangeShapes Go.WideShapes Go.ChangeAt Go.RowKit Go.Deep
open Go.ChangeMaps (open_string shut_string)
set_option linter.unusedVariables false

theorem own : ownKnob Try.prog.godebug = none := by kernel_rfl
theorem laidOut : laidOutB Try.prog = true := by kernel_rfl

theorem info8 : (Try.prog.info? 5).map (fun i => (i.zero, i.size, i.bytes)) = some (some (.int .u8 0), 1, 1) := by kernel_rfl
theorem fromS_tail (z : List Int) (m : Nat) (h : z.length = m + 8) : fromS ((z.drop m).take 8) = fromS z := by
  rw [List.take_of_length_le (by simp; omega), fromS_short (by simp; omega)]
  unfold fromS
  rw [show z.length - 8 = m by omega]
theorem row_tail {w : World} {a : Option Addr} {m : Nat} {z : List Int} (h : Row .u8 w a (m + 8) z) (hl : z.length = m + 8) : ∃ b off, a = some ⟨b, off, none⟩ ∧ Row .u8 w (some ⟨b, off + m, none⟩) 8 (z.drop m) := by
  obtain ⟨_, _, hc, hw⟩ := h
  rcases hc with hc | ⟨b, off, rfl, hc⟩
  · omega
  · refine ⟨b, off, rfl, by simp; omega, by decide, .inr ⟨b, off + m, rfl, fun j hj => ?_⟩, fun n hn => hw n (List.mem_of_mem_drop hn)⟩
    rw [getD_drop, Nat.add_assoc]
    exact hc (m + j) (by simp at hj; omega)

set_option maxRecDepth 100000 in
set_option maxHeartbeats 2000000 in
theorem walk (w : World) (a0 : Option Addr) (l0 k0 : Nat) (L0 : List (List Value)) (w0 : SliceIn w [.int .u8] 1 a0 l0 k0 L0) (a1 : Option Addr) (l1 k1 : Nat) (L1 : List (List Value)) (w1 : SliceIn w [.int .u8] 1 a1 l1 k1 L1) :
    Calls Try.prog 8 #[.slice a0 l0 k0, .slice a1 l1 k1] w fun e w' => e = .returned (.bool true) ∧ Below w.heap.size w w' := by
  have hc0 := w0.2.2.1
  have hm0 := w0.2.2.2.2.1
  have hc1 := w1.2.2.1
  have hm1 := w1.2.2.2.2.1
  obtain ⟨z0, e0, r0⟩ := w0.row
  obtain ⟨z1, e1, r1⟩ := w1.row
  have E0 := Lib.hid e0
  have E1 := Lib.hid e1
  unfold maxLen at hm0 hm1
  clear w0 w1 e0 e1
  obtain ⟨i0, hi, hz0, hz1, hz2⟩ := info_parts info8
  have hmk : ∀ w, (Instr.makeSlice 29 (.int .i64 8) (.int .i64 8)).run Try.prog w = .ok (.slice (some ⟨w.heap.size, 0, none⟩) 8 8) (w.alloc (.cells #[.int .u8 0, .int .u8 0, .int .u8 0, .int .u8 0, .int .u8 0, .int .u8 0, .int .u8 0, .int .u8 0] 5)) := fun _ => by kernel_rfl
  by_cases h0 : l0 ≤ 100
  · by_cases h1 : l1 ≤ 100
    · go_enter Try.func8, Try.ntmps8
      go_wp2_with (first | (go_at_call 9; refine (awake_any _).mono ?_; rintro e w' ⟨rfl, rfl⟩))
      have T0 : Two w (w.alloc (.cells #[.int .u8 1, .int .u8 0] 5)) 5 .u8 none none := Two.start ((Below.refl _ _).alloc (Nat.le_refl _) _)
      go_cut [6] (fun v wr => wr.ownsInts w.heap.size 5 .u8 v (z1 ++ (List.replicate 8 0 ++ z0)) ∧ Below w.heap.size w wr)
      case first =>
        go_region_law (first
          | (refine two_step (w := w) rfl (.tmp 17) (.tmp 18) rfl Try.underlying29 hi hz0 hz1 hz2 rfl (by decide) (q := .u8) (v := .slice (some ⟨_, 0, none⟩) 0 0) (zs := []) (us := z1) rfl rfl (Two.drew (Two.empty T0 ?_)) r1 E1.out ?_ ?_; (focus ((first | rfl | (simp; done)))); (focus (simp; omega)); intro v19 w19 T19)
          | (refine two_step (w := w) rfl (.tmp 17) (.tmp 18) rfl Try.underlying29 hi hz0 hz1 hz2 rfl (by decide) (q := .u8) (v := .slice (some ⟨_, 0, none⟩) 0 0) (zs := []) (us := z1) rfl rfl (Two.drew (Two.swap (Two.zeros (g := w.heap.size + 1 + 1) (Two.swap (Two.empty T0 ?_)) ?_))) r1 E1.out ?_ ?_; (focus ((first | rfl | (simp; done)))); (focus ((first | rfl | (simp; done)))); (focus (simp; omega)); intro v19 w19 T19)
          | (refine two_step (w := w) rfl (.tmp 17) (.tmp 18) rfl Try.underlying29 hi hz0 hz1 hz2 rfl (by decide) (q := .u8) (v := .slice (some ⟨_, 0, none⟩) 0 0) (zs := []) (us := z1) rfl rfl (Two.drew (Two.empty (Two.swap (Two.zeros (g := w.heap.size + 1) (Two.swap T0) ?_)) ?_)) r1 E1.out ?_ ?_; (focus ((first | rfl | (simp; done)))); (focus ((first | rfl | (simp; done)))); (focus (simp; omega)); intro v19 w19 T19)
          | (refine two_step (w := w) rfl (.tmp 20) (.tmp 21) rfl Try.underlying29 hi hz0 hz1 hz2 rfl (by decide) (q := .u8) (v := .slice (some ⟨_, 0, none⟩) 8 8) (zs := List.replicate 8 0) (us := z0) rfl rfl T19.swap r0 E0.out ?_ ?_; (focus (simp; omega)); intro v22 w22 T22)
          | (refine two_step (w := w) rfl (.tmp 20) (.tmp 21) rfl Try.underlying29 hi hz0 hz1 hz2 rfl (by decide) (q := .u8) (v := .slice (some ⟨_, 0, none⟩) 8 8) (zs := List.replicate 8 0) (us := z0) rfl rfl (Two.zeros (Two.swap T19) ?_) r0 E0.out ?_ ?_; (focus ((first | rfl | (simp; done)))); (focus (simp; omega)); intro v22 w22 T22)
          | (refine two_join (w := w) rfl (.tmp 19) (.tmp 22) rfl Try.underlying29 hi hz0 hz1 hz2 rfl (by decide) (q := .u8) (zs := z1) (us := List.replicate 8 0 ++ z0) rfl rfl T22.swap ?_ ?_; (focus (have := E0.out; have := E1.out; simp; omega)); intro v23 w23 own23 bel23))
        all_goals go_wp2
        all_goals go_meet
        all_goals exact ⟨own23, bel23⟩
      case rest =>
        obtain ⟨own, bel⟩ := hcut
        obtain ⟨A, n, c, hv, hr, hn, hc, hcm⟩ := own_row' own
        rw [hv]
        have R0 := r0.later bel
        have e1 := Lib.hid (fromS_long z1 z0)
        have e2 : Hid (z0.take l0 = z0) := Lib.hid (List.take_of_length_le (by have := E0.out; omega))
        have e3 : Hid ((z1 ++ (List.replicate 8 0 ++ z0)).take n = z1 ++ (List.replicate 8 0 ++ z0)) := Lib.hid (List.take_of_length_le (Nat.le_of_eq hn.out))
        clear hv own T0
        go_wp2_with fail
        refine (from_any _ _ _ _ _ hr hc hcm).mono ?_
        rintro e w' ⟨rfl, rfl⟩
        rw [e3.out, e1.out]
        go_wp2_with fail
        refine (from_any _ _ _ _ _ R0 hc0 (by unfold maxLen; omega)).mono ?_
        rintro e w' ⟨rfl, rfl⟩
        rw [e2.out]
        by_cases h8 : l0 < 8
        · have h8' : (l0 : Int) < 8 := by omega
          go_wp2
          go_ret
          exact ⟨ret_bool (by simp), bel⟩
        · obtain ⟨m, rfl⟩ : ∃ m, l0 = m + 8 := ⟨l0 - 8, by omega⟩
          obtain ⟨b, off, rfl, R2⟩ := row_tail R0 E0.out
          have h8' : decide (((m + 8 : Nat) : Int) < 8) = false := by simp; omega
          have e4 := Lib.hid (fromS_tail z0 m E0.out)
          go_wp2_with fail
          refine (from_any _ _ _ _ _ R2 (by omega) (by unfold maxLen; omega)).mono ?_
          rintro e w' ⟨rfl, rfl⟩
          rw [e4.out]
          go_wp2_with fail
          refine (from_any _ _ _ _ _ R0 hc0 (by unfold maxLen; omega)).mono ?_
          rintro e w' ⟨rfl, rfl⟩
          rw [e2.out]
          go_wp2
          go_ret
          exact ⟨ret_bool (by simp), bel⟩
    · go_enter Try.func8, Try.ntmps8
      go_wp2_with (first | (go_at_call 9; refine (awake_any _).mono ?_; rintro e w' ⟨rfl, rfl⟩))
      go_ret
      exact ⟨rfl, (Below.refl _ _).alloc (Nat.le_refl _) _⟩
  · go_enter Try.func8, Try.ntmps8
    go_wp2_with (first | (go_at_call 9; refine (awake_any _).mono ?_; rintro e w' ⟨rfl, rfl⟩))
    go_ret
    exact ⟨rfl, (Below.refl _ _).alloc (Nat.le_refl _) _⟩

set_option maxRecDepth 100000 in
theorem lifted (os : Os) (started : os.Started) (H : Type) (enc : TypeId × Value → H) :
    ReturnsInHanded {} Try.checked os 8 .any (Rows.bitsMoreSpec.pre6 enc Try.prog Try.f8 Rows.bitsMoreRow.domain false) (Rows.bitsMoreSpec.post enc Try.prog Try.f8 false true false false) := by
  refine returnsInHanded_of_change_sized (C := Try.checked) own started (by kernel_rfl) Try.func8
    (ChangeSpec.witness6 (enc := enc) (C := Try.checked) false ⟨#[], #[.slice none 0 0, .slice none 0 0], []⟩ 8 (by kernel_rfl) (by kernel_rfl) (by kernel_rfl) (by kernel_rfl)) ?_
  intro W base args ds gs before hval0 hW hcnd hsz0 _
  have hval : ∀ (j : Nat) t v, Try.f8.params[j]? = some t → args[j]? = some v → Value.okWide Try.prog W .any base t v := hval0
  have hsz : (DataW.weightsEach Try.prog (Try.f8.params.toList ++ Rows.bitsMoreSpec.plain.varTypes Try.prog) (ds ++ gs)).all (· ≤ reachBytes) = true := hsz0
  have hW' := hW
  obtain ⟨p, q, hA0, hV, rfl, hfz, hnd⟩ := hW
  have hA : DataW.TrodAll enc Try.prog W 0 (fun _ => true) true Try.f8.params.toList args.toList ds p := hA0
  rw [Try.params8] at hA hval hsz
  have hAk := hA
  obtain ⟨v0, vs0, d0, ds0, p0, q0, hargs, rfl, rfl, h0, r0⟩ := trodAll_cons hA
  obtain ⟨v1, vs1, d1, ds1, p1, q1, rfl, rfl, rfl, h1, r1⟩ := trodAll_cons r0
  obtain ⟨rfl, rfl, rfl⟩ := trodAll_nil r1
  obtain rfl : args = #[v0, v1] := by cases args; simp_all
  obtain ⟨rfl, rfl⟩ := trodVars_none hV
  obtain ⟨a0, l0, k0, L0, rfl, w0⟩ := open_slice_flat (ks := [.int .u8]) (bytes := 1) 8 Try.underlying29 (by kernel_rfl) (by kernel_rfl) (by decide) (by kernel_rfl) (hval 0 29 v0 rfl rfl) h0 (fun elems rest hd => by subst hd; exact sized_slice hsz (j := 0) (t := 29) (e := 5) rfl rfl Try.underlying29)
  obtain ⟨a1, l1, k1, L1, rfl, w1⟩ := open_slice_flat (ks := [.int .u8]) (bytes := 1) 8 Try.underlying29 (by kernel_rfl) (by kernel_rfl) (by decide) (by kernel_rfl) (hval 1 29 v1 rfl rfl) h1 (fun elems rest hd => by subst hd; exact sized_slice hsz (j := 1) (t := 29) (e := 5) rfl rfl Try.underlying29)
  clear hA0 hval0 hsz0
  refine (walk W a0 l0 k0 L0 w0 a1 l1 k1 L1 w1).mono fun e W' ⟨he, bel⟩ => ?_
  subst he
  exact ⟨_, rfl, _, _, _, [], _, [], hW', trodAll_mk1 (shut_bool Try.underlying4 _), trodAll_below laidOut bel _ _ _ _ (by kernel_rfl) hAk, rfl, bel.frame _, fun h => by cases h⟩

theorem over : Rows.bitsMoreRow.holds Try.pinned (OpenSpec.ofChange Rows.bitsMoreSpec) :=
  OpenClaim.holds_of_wide 8 Try.f8 rfl rfl rfl rfl rfl rfl rfl ⟨rfl, rfl, rfl, rfl, rfl⟩ rfl rfl rfl rfl rfl (by kernel_rfl) Try.func8 (by kernel_rfl)
    (of_decide_eq_true (by kernel_rfl)) (by unfold Func.isWrapper; first | (rw [if_pos (by decide +kernel)]; kernel_rfl) | (rw [if_neg (by decide +kernel)]; exact ⟨rfl, rfl⟩))
    (fun os started H enc _ => lifted os started H enc)

theorem proved : Rows.BitsMoreSaid := over
#print axioms proved
end Go.Proofs.Ytbjehaloimbliaa.bitsMore
