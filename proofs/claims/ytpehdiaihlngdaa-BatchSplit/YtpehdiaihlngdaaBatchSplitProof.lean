/- What is proved: BatchSplit of porpoiselaw13 answers true for every input, and leaves its arguments as they were; conditions: those of the given row alone. -/
import Derived.Test.YtpehdiaihlngdaaKit
import Derived.Test.YtpehdiaihlngdaaAllM13
namespace Go.Proofs.Ytpehdiaihlngdaa.batchSplit
open Go.ChangeShapes Go.WideShapes Go.ChangeAt Go.RowKit Go.Deep
open Go.ChangeMaps (open_string shut_string)
set_option linter.unusedVariables false

theorem own : ownKnob Try.prog.godebug = none := by kernel_rfl
theorem laidOut : laidOutB Try.prog = true := by kernel_rfl



set_option maxRecDepth 100000 in
set_option maxHeartbeats 2000000 in
theorem walk (w : World) (a0 : Option Addr) (l0 k0 : Nat) (L0 : List (List Value)) (w0 : SliceIn w [.int .i64, .int .i64] 16 a0 l0 k0 L0) (a1 : Option Addr) (l1 k1 : Nat) (L1 : List (List Value)) (w1 : SliceIn w [.int .i64] 8 a1 l1 k1 L1) :
    Calls Try.prog 6 #[.slice a0 l0 k0, .slice a1 l1 k1] w fun e w' => e = .returned (.bool true) ∧ Below w.heap.size w w' := by
  obtain ⟨V, hrow, hfit, _, _⟩ := pairs_in w0
  obtain ⟨X, hx, _, _, _⟩ := ints_in w1
  have hml := hx.2.1
  unfold maxLen at hml
  have HR := Lib.hid hrow
  have HF := Lib.hid hfit
  have HX := Lib.hid hx
  have GD := Lib.hid (allS_good 4 (V.take 20))
  clear w0 w1 hrow hfit hx
  go_enter Try.func6, Try.ntmps6
  go_wp2_with fail
  refine (awake_any w).mono ?_
  rintro r wa ⟨rfl, ba⟩
  have LA := Lib.hid ba
  clear ba
  by_cases h60 : 60 < l1
  · have h60' : (60 : Int) < l1 := by omega
    go_wp2
    go_ret
    exact ⟨rfl, LA.out⟩
  · have h60' : ¬ (60 : Int) < l1 := by omega
    go_wp2_with fail
    refine (all_any a0 l0 k0 V 4 wa (HR.out.later LA.out) HF.out).mono ?_
    rintro r w2 ⟨A, n, c, M, m, d, T, t, f, rfl, bt, rt, _, up, b2⟩
    have k2 := heap_alloc_at w2 (bobj 31 A n c M m d)
    have b3 := below_alloc w2 (bobj 31 A n c M m d)
    have B3 := Lib.hid (LA.out.trans ((b2.trans (b3.mono b2.size)).mono LA.out.size))
    have BT := Lib.hid (bt.below b3)
    have K3 := Lib.hid k2
    have AL := Lib.hid bt.alen
    have MLn := Lib.hid bt.mlen
    have UP := Lib.hid up
    generalize hg : w2.heap.size = g at *
    go_wp2_with fail
    clear k2 b2 b3 bt rt up
    generalize w2.alloc (bobj 31 A n c M m d) = w3 at *
    have hm20 : m ≤ 1000 := by have h1 := UP.out.2.1; have h2 := MLn.out; omega
    by_cases hk : l1 = n
    · have hk' : ((l1 : Int) == (n : Int)) = true := by simp [hk]
      have hy := GD.out.splits (vs := X) (by rw [HX.out.1, AL.out, hk])
      refine (split_is A n c M m d _ _ a1 l1 k1 X w3 BT.out (HX.out.later B3.out) hm20 hy (splitL_yes hy) (q := m) (by rw [pairL_len, MLn.out])).mono ?_
      rintro r w4 ⟨P, q, rfl, rp, hq, b4⟩
      obtain ⟨c0, c1⟩ := bobj_cells (kb_below K3.out b4)
      have B4 := Lib.hid (B3.out.trans (b4.mono B3.out.size))
      clear b4 rp
      go_wp2
      go_ret
      exact ⟨rfl, B4.out⟩
    · have hk' : ((l1 : Int) == (n : Int)) = false := by simp; omega
      have hy : splitY (allS 4 (V.take 20)).zs (allS 4 (V.take 20)).ms X = false := by
        unfold splitY
        rw [HX.out.1, AL.out]
        simp [hk]
      refine (split_is A n c M m d _ _ a1 l1 k1 X w3 BT.out (HX.out.later B3.out) hm20 hy (splitL_no hy) (q := 0) rfl).mono ?_
      rintro r w4 ⟨P, q, rfl, rp, hq, b4⟩
      obtain ⟨c0, c1⟩ := bobj_cells (kb_below K3.out b4)
      have B4 := Lib.hid (B3.out.trans (b4.mono B3.out.size))
      clear b4 rp
      go_wp2
      go_ret
      exact ⟨rfl, B4.out⟩

set_option maxRecDepth 100000 in
theorem lifted (os : Os) (started : os.Started) (H : Type) (enc : TypeId × Value → H) :
    ReturnsInHanded {} Try.checked os 6 .any (Rows.batchSplitSpec.pre6 enc Try.prog Try.f6 Rows.batchSplitRow.domain false) (Rows.batchSplitSpec.post enc Try.prog Try.f6 false true false false) := by
  refine returnsInHanded_of_change_sized (C := Try.checked) own started (by kernel_rfl) Try.func6
    (ChangeSpec.witness6 (enc := enc) (C := Try.checked) false ⟨#[], #[.slice none 0 0, .slice none 0 0], []⟩ 8 (by kernel_rfl) (by kernel_rfl) (by kernel_rfl) (by kernel_rfl)) ?_
  intro W base args ds gs before hval0 hW hcnd hsz0 _
  have hval : ∀ (j : Nat) t v, Try.f6.params[j]? = some t → args[j]? = some v → Value.okWide Try.prog W .any base t v := hval0
  have hsz : (DataW.weightsEach Try.prog (Try.f6.params.toList ++ Rows.batchSplitSpec.plain.varTypes Try.prog) (ds ++ gs)).all (· ≤ reachBytes) = true := hsz0
  have hW' := hW
  obtain ⟨p, q, hA0, hV, rfl, hfz, hnd⟩ := hW
  have hA : DataW.TrodAll enc Try.prog W 0 (fun _ => true) true Try.f6.params.toList args.toList ds p := hA0
  rw [Try.params6] at hA hval hsz
  have hAk := hA
  obtain ⟨v0, vs0, d0, ds0, p0, q0, hargs, rfl, rfl, h0, r0⟩ := trodAll_cons hA
  obtain ⟨v1, vs1, d1, ds1, p1, q1, rfl, rfl, rfl, h1, r1⟩ := trodAll_cons r0
  obtain ⟨rfl, rfl, rfl⟩ := trodAll_nil r1
  obtain rfl : args = #[v0, v1] := by cases args; simp_all
  obtain ⟨rfl, rfl⟩ := trodVars_none hV
  obtain ⟨a0, l0, k0, L0, rfl, w0⟩ := open_slice_flat (ks := [.int .i64, .int .i64]) (bytes := 16) 8 Try.underlying54 (by kernel_rfl) (by kernel_rfl) (by decide) (by kernel_rfl) (hval 0 54 v0 rfl rfl) h0 (fun elems rest hd => by subst hd; exact sized_slice hsz (j := 0) (t := 54) (e := 58) rfl rfl Try.underlying54)
  obtain ⟨a1, l1, k1, L1, rfl, w1⟩ := open_slice_flat (ks := [.int .i64]) (bytes := 8) 8 Try.underlying22 (by kernel_rfl) (by kernel_rfl) (by decide) (by kernel_rfl) (hval 1 22 v1 rfl rfl) h1 (fun elems rest hd => by subst hd; exact sized_slice hsz (j := 1) (t := 22) (e := 3) rfl rfl Try.underlying22)
  clear hA0 hval0 hsz0
  refine (walk W a0 l0 k0 L0 w0 a1 l1 k1 L1 w1).mono fun e W' ⟨he, bel⟩ => ?_
  subst he
  exact ⟨_, rfl, _, _, _, [], _, [], hW', trodAll_mk1 (shut_bool Try.underlying4 _), trodAll_below laidOut bel _ _ _ _ (by kernel_rfl) hAk, rfl, bel.frame _, fun h => by cases h⟩

theorem over : Rows.batchSplitRow.holds Try.pinned (OpenSpec.ofChange Rows.batchSplitSpec) :=
  OpenClaim.holds_of_wide 6 Try.f6 rfl rfl rfl rfl rfl rfl rfl ⟨rfl, rfl, rfl, rfl, rfl⟩ rfl rfl rfl rfl rfl (by kernel_rfl) Try.func6 (by kernel_rfl)
    (of_decide_eq_true (by kernel_rfl)) (by unfold Func.isWrapper; first | (rw [if_pos (by decide +kernel)]; kernel_rfl) | (rw [if_neg (by decide +kernel)]; exact ⟨rfl, rfl⟩))
    (fun os started H enc _ => lifted os started H enc)

theorem proved : Rows.BatchSplitSaid := over
#print axioms proved
end Go.Proofs.Ytpehdiaihlngdaa.batchSplit
