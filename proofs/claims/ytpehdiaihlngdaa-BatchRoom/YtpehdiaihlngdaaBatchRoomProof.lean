/- What is proved: BatchRoom of porpoiselaw13 answers true for every input, and leaves its arguments as they were; conditions: those of the given row alone. -/
import Derived.Test.YtpehdiaihlngdaaKit
import Derived.Test.YtpehdiaihlngdaaAllM13
import Derived.Test.YtpehdiaihlngdaaLater
namespace Go.Proofs.Ytpehdiaihlngdaa.batchRoom
open Go.ChangeShapes Go.WideShapes Go.ChangeAt Go.RowKit Go.Deep
open Go.ChangeMaps (open_string shut_string)
set_option linter.unusedVariables false

theorem own : ownKnob Try.prog.godebug = none := by kernel_rfl
theorem laidOut : laidOutB Try.prog = true := by kernel_rfl



set_option maxRecDepth 100000 in
set_option maxHeartbeats 2000000 in
theorem walk (w : World) (a0 : Option Addr) (l0 k0 : Nat) (L0 : List (List Value)) (w0 : SliceIn w [.int .i64, .int .i64] 16 a0 l0 k0 L0) (a1 : Int) (w1 : (Lit.int .u8 a1).wf = true) (c2 : Array Value) (w2 : Flat [.int .i64, .int .i64] c2.toList) :
    Calls Try.prog 5 #[.slice a0 l0 k0, .int .u8 a1, .agg c2] w fun e w' => e = .returned (.bool true) ∧ Below w.heap.size w w' := by
  obtain ⟨V, hrow, hfit, _, _⟩ := pairs_in w0
  have hb := bounds_u8 w1
  obtain ⟨x, rfl, hxf⟩ := pair_agg w2
  obtain ⟨xa, xb⟩ := x
  obtain ⟨m6, hm6⟩ : ∃ m6 : Nat, a1 % 6 = m6 := ⟨(a1 % 6).toNat, by omega⟩
  have hm5 : m6 ≤ 5 := by omega
  have HR := Lib.hid hrow
  have HF := Lib.hid hfit
  have XF := Lib.hid hxf
  have GD := Lib.hid (allS_good (1 + (m6 : Int)) (V.take 20))
  have kx := heap_alloc_at w (.cells #[.int .i64 xa, .int .i64 xb] 58)
  have bx := below_alloc w (.cells #[.int .i64 xa, .int .i64 xb] 58)
  have KX := Lib.hid kx
  have BX := Lib.hid bx
  clear w0 w1 w2 hrow hfit hxf kx bx
  go_enter Try.func5, Try.ntmps5
  go_wp2_with fail
  generalize hW : w.alloc (.cells #[.int .i64 xa, .int .i64 xb] 58) = W at *
  refine (awake_any W).mono ?_
  rintro r wa ⟨rfl, ba⟩
  have LA := Lib.hid (BX.out.trans (ba.mono BX.out.size))
  have KA := Lib.hid (kb_below KX.out ba)
  clear ba KX BX
  go_wp2_with fail
  refine (all_any a0 l0 k0 V (1 + (m6 : Int)) wa (HR.out.later LA.out) HF.out).mono ?_
  rintro r w2 ⟨A, n, c, M, m, d, T, t, f, rfl, bt, rt, _, up, b2⟩
  have k2 := heap_alloc_at w2 (bobj 31 A n c M m d)
  have b3 := below_alloc w2 (bobj 31 A n c M m d)
  have B3 := Lib.hid (LA.out.trans ((b2.trans (b3.mono b2.size)).mono LA.out.size))
  have KX := Lib.hid (kb_below KA.out (b2.trans (b3.mono b2.size)))
  have BT := Lib.hid (bt.below b3)
  have K3 := Lib.hid k2
  have AL := Lib.hid bt.alen
  have MLn := Lib.hid bt.mlen
  have hn20 : n ≤ 1000 := by have h1 := up.1; have h2 := AL.out; omega
  have hm20 : m ≤ 1000 := by have h1 := up.2.1; have h2 := MLn.out; omega
  generalize hg : w2.heap.size = g at *
  clear k2 b2 b3 bt rt up KA LA
  go_wp2_with fail
  generalize w2.alloc (bobj 31 A n c M m d) = w3 at *
  generalize allS (1 + (m6 : Int)) (V.take 20) = S at *
  have WF := Lib.hid XF.out.1
  go_loopg [12, 11] n (fun q v12 v11 wr => ∃ i : Nat, i + q = n ∧ v12 = .int .i64 i ∧ v11 = .bool (decide (xb ∈ S.zs.take i)) ∧ Below w3.heap.size w3 wr)
  case atStart => exact ⟨0, by omega, rfl, by simp, Below.refl _ _⟩
  case round =>
    obtain ⟨i, hq, rfl, rfl, hl⟩ := hrel
    have G := Lib.hid hq
    have L := Lib.hid hl
    clear hq hl
    obtain ⟨c0, c1⟩ := bobj_cells (kb_below K3.out L.out)
    by_cases hin : i < n
    · have hi1 : (i : Int) < n := by omega
      obtain ⟨zb, zo, z, rfl, hz, q0⟩ := (BT.out.below L.out).ar.int_at hin
      have x0 : wr.cell? ⟨w.heap.size, 1, none⟩ = some (.int .i64 xb) := by rw [cell_of (kb_below KX.out L.out)]; rfl
      have LF : ∀ p : Later wr, p.v.cell? ⟨g, 0, none⟩ = some (.slice (some ⟨zb, zo, none⟩) n c) := fun p => p.cell c0
      have L0 : ∀ p : Later wr, p.v.cell? ⟨zb, zo + i, none⟩ = some (.int .i64 z) := fun p => p.cell q0
      have L1 : ∀ p : Later wr, p.v.cell? ⟨w.heap.size, 1, none⟩ = some (.int .i64 xb) := fun p => p.cell x0
      have hnext : decide (xb ∈ S.zs.take (i + 1)) = (decide (xb ∈ S.zs.take i) || (z == xb)) := by
        rw [take_more hz, Bool.eq_iff_iff, decide_eq_true_eq, List.mem_append, List.mem_singleton, Bool.or_eq_true, decide_eq_true_eq, beq_iff_eq]
        exact or_congr Iff.rfl ⟨Eq.symm, Eq.symm⟩
      have HN := Lib.hid hnext
      clear hnext hz q0 x0 c1
      cases hd : decide (xb ∈ S.zs.take i)
      · rw [hd, Bool.false_or] at HN
        go_wp2
        clear c0
        refine wp_region_later (by kernel_rfl) (by kernel_rfl) ?_
        repeat go_big_quiet_step (fail)
        refine wpQuiet_nil ?_
        rintro w10 ⟨⟨_, b10⟩, rfl⟩
        have L10 := Lib.hid (L.out.trans (b10.mono L.out.size))
        clear b10 LF L0 L1 hd
        go_wp2
        go_roundg (n - (i + 1))
        case measure => have := G.out; omega
        case rel => exact ⟨i + 1, by omega, by simp, by rw [HN.out], L10.out⟩
      · rw [hd, Bool.true_or] at HN
        go_wp2
        clear c0
        refine wp_region_later (by kernel_rfl) (by kernel_rfl) ?_
        repeat go_big_quiet_step (fail)
        refine wpQuiet_nil ?_
        rintro w10 ⟨⟨_, b10⟩, rfl⟩
        have L10 := Lib.hid (L.out.trans (b10.mono L.out.size))
        clear b10 LF L0 L1 hd
        go_wp2
        go_roundg (n - (i + 1))
        case measure => have := G.out; omega
        case rel => exact ⟨i + 1, by omega, by simp, by rw [HN.out], L10.out⟩
    · have hi1 : ¬ (i : Int) < n := by omega
      have hin' : i = n := by have := G.out; omega
      subst hin'
      have x0 : wr.cell? ⟨w.heap.size, 0, none⟩ = some (.int .i64 xa) := by rw [cell_of (kb_below KX.out L.out)]; rfl
      have x1 : wr.cell? ⟨w.heap.size, 1, none⟩ = some (.int .i64 xb) := by rw [cell_of (kb_below KX.out L.out)]; rfl
      rw [List.take_of_length_le (by rw [AL.out]; omega)]
      have B4 := Lib.hid (BT.out.below L.out)
      have K4 := Lib.hid (kb_below K3.out L.out)
      have L4 := Lib.hid (B3.out.trans (L.out.mono B3.out.size))
      have AC := Lib.hid (add_any A i c M m d S.zs S.ms xa xb (1 + (m6 : Int)) wr B4.out WF.out hn20 hm20)
      clear K3 KX BT B3 L hin
      by_cases hin : xb ∈ S.zs
      · have hd : decide (xb ∈ S.zs) = true := by simp [hin]
        rw [hd]
        have e1 : addY S.zs xb (1 + (m6 : Int)) = true := by simp [addY, hin]
        have e2 : addA S.zs xb (1 + (m6 : Int)) = S.zs := by simp [addA, hin]
        have e3 : (addM S.zs S.ms xa xb (1 + (m6 : Int))).length = m + 1 := by simp [addM, hin, MLn.out]
        have E := Lib.hid (And.intro e1 (And.intro e2 e3))
        clear e1 e2 e3 hd hin
        go_wp2_with fail
        refine AC.out.mono ?_
        rintro r w5 ⟨A', n', c', M', m', d', rfl, b5, _, l5⟩
        rw [E.out.1]
        have h1 := b5.alen
        have h2 := b5.mlen
        rw [E.out.2.1, AL.out] at h1
        rw [E.out.2.2] at h2
        subst h1 h2
        have k6 := heap_alloc_at w5 (bobj 31 A' i c' M' (m + 1) d')
        have b6 := below_alloc w5 (bobj 31 A' i c' M' (m + 1) d')
        have L6 := Lib.hid (L4.out.trans ((l5.trans (b6.mono l5.size)).mono L4.out.size))
        have K6 := Lib.hid k6
        have K4' := Lib.hid (kb_below K4.out (l5.trans (b6.mono l5.size)))
        obtain ⟨c0, c1⟩ := bobj_cells K4'.out
        obtain ⟨d0, d1⟩ := bobj_cells K6.out
        generalize hg6 : w5.heap.size = g6 at *
        clear k6 b6 l5 b5 x0 x1 K4 L4 AC
        have hne : ((i : Int) == (i : Int) + 1) = false := by simp; omega
        go_wp2
        go_ret
        exact ⟨rfl, L6.out⟩
      · have hd : decide (xb ∈ S.zs) = false := by simp [hin]
        rw [hd]
        by_cases hf : 1 + (m6 : Int) ≤ (i : Int)
        · have e1 : addY S.zs xb (1 + (m6 : Int)) = false := by simp [addY, hin, AL.out, hf]
          have e2 : addA S.zs xb (1 + (m6 : Int)) = S.zs := by simp [addA, hin, AL.out, hf]
          have e3 : (addM S.zs S.ms xa xb (1 + (m6 : Int))).length = m := by simp [addM, hin, AL.out, hf, MLn.out]
          have E := Lib.hid (And.intro e1 (And.intro e2 e3))
          have FL := Lib.hid (fun wx => full_any A i c M m d (1 + (m6 : Int)) wx)
          rw [show decide (1 + (m6 : Int) ≤ (i : Int)) = true by simp [hf]] at FL
          clear e1 e2 e3 hd hin hf
          go_wp2_with fail
          refine AC.out.mono ?_
          rintro r w5 ⟨A', n', c', M', m', d', rfl, b5, _, l5⟩
          rw [E.out.1]
          have h1 := b5.alen
          have h2 := b5.mlen
          rw [E.out.2.1, AL.out] at h1
          rw [E.out.2.2] at h2
          subst h1 h2
          have k6 := heap_alloc_at w5 (bobj 31 A' i c' M' m d')
          have b6 := below_alloc w5 (bobj 31 A' i c' M' m d')
          have L6 := Lib.hid (L4.out.trans ((l5.trans (b6.mono l5.size)).mono L4.out.size))
          have K6 := Lib.hid k6
          have K4' := Lib.hid (kb_below K4.out (l5.trans (b6.mono l5.size)))
          obtain ⟨c0, c1⟩ := bobj_cells K4'.out
          obtain ⟨d0, d1⟩ := bobj_cells K6.out
          generalize hg6 : w5.heap.size = g6 at *
          clear k6 b6 l5 b5 x0 x1 K4 L4 AC
          go_wp2_with fail
          generalize w5.alloc (bobj 31 A' i c' M' m d') = w6 at *
          refine (FL.out w6).mono ?_
          rintro r w7 ⟨rfl, b7⟩
          have c0' := (cells_later K4'.out b7).1
          have c1' := (cells_later K4'.out b7).2
          have d0' := (cells_later K6.out b7).1
          have d1' := (cells_later K6.out b7).2
          have L7 := Lib.hid (L6.out.trans (b7.mono L6.out.size))
          clear b7 c0 c1 d0 d1
          have hne : ((i : Int) == (i : Int) + 1) = false := by simp; omega
          go_wp2
          go_ret
          exact ⟨rfl, L7.out⟩
        · have e1 : addY S.zs xb (1 + (m6 : Int)) = true := by simp [addY, hin, AL.out]; omega
          have e2 : (addA S.zs xb (1 + (m6 : Int))).length = i + 1 := by unfold addA; rw [if_neg hin, AL.out, if_neg hf]; simp [AL.out]
          have e3 : (addM S.zs S.ms xa xb (1 + (m6 : Int))).length = m + 1 := by unfold addM; rw [AL.out, if_pos (.inr hf)]; simp [MLn.out]
          have E := Lib.hid (And.intro e1 (And.intro e2 e3))
          have FL := Lib.hid (fun wx => full_any A i c M m d (1 + (m6 : Int)) wx)
          rw [show decide (1 + (m6 : Int) ≤ (i : Int)) = false by simp; omega] at FL
          clear e1 e2 e3 hd hin hf
          go_wp2_with fail
          refine AC.out.mono ?_
          rintro r w5 ⟨A', n', c', M', m', d', rfl, b5, _, l5⟩
          rw [E.out.1]
          have h1 := b5.alen
          have h2 := b5.mlen
          rw [E.out.2.1] at h1
          rw [E.out.2.2] at h2
          subst h1 h2
          have k6 := heap_alloc_at w5 (bobj 31 A' (i + 1) c' M' (m + 1) d')
          have b6 := below_alloc w5 (bobj 31 A' (i + 1) c' M' (m + 1) d')
          have L6 := Lib.hid (L4.out.trans ((l5.trans (b6.mono l5.size)).mono L4.out.size))
          have K6 := Lib.hid k6
          have K4' := Lib.hid (kb_below K4.out (l5.trans (b6.mono l5.size)))
          obtain ⟨c0, c1⟩ := bobj_cells K4'.out
          obtain ⟨d0, d1⟩ := bobj_cells K6.out
          generalize hg6 : w5.heap.size = g6 at *
          clear k6 b6 l5 b5 x0 x1 K4 L4 AC
          go_wp2_with fail
          generalize w5.alloc (bobj 31 A' (i + 1) c' M' (m + 1) d') = w6 at *
          refine (FL.out w6).mono ?_
          rintro r w7 ⟨rfl, b7⟩
          have c0' := (cells_later K4'.out b7).1
          have c1' := (cells_later K4'.out b7).2
          have d0' := (cells_later K6.out b7).1
          have d1' := (cells_later K6.out b7).2
          have L7 := Lib.hid (L6.out.trans (b7.mono L6.out.size))
          clear b7 c0 c1 d0 d1
          go_wp2
          go_ret
          exact ⟨rfl, L7.out⟩

set_option maxRecDepth 100000 in
theorem lifted (os : Os) (started : os.Started) (H : Type) (enc : TypeId × Value → H) :
    ReturnsInHanded {} Try.checked os 5 .any (Rows.batchRoomSpec.pre6 enc Try.prog Try.f5 Rows.batchRoomRow.domain false) (Rows.batchRoomSpec.post enc Try.prog Try.f5 false true false false) := by
  refine returnsInHanded_of_change_sized (C := Try.checked) own started (by kernel_rfl) Try.func5
    (ChangeSpec.witness6 (enc := enc) (C := Try.checked) false ⟨#[], #[.slice none 0 0, .int .u8 0, .agg #[.int .i64 0, .int .i64 0]], []⟩ 8 (by kernel_rfl) (by kernel_rfl) (by kernel_rfl) (by kernel_rfl)) ?_
  intro W base args ds gs before hval0 hW hcnd hsz0 _
  have hval : ∀ (j : Nat) t v, Try.f5.params[j]? = some t → args[j]? = some v → Value.okWide Try.prog W .any base t v := hval0
  have hsz : (DataW.weightsEach Try.prog (Try.f5.params.toList ++ Rows.batchRoomSpec.plain.varTypes Try.prog) (ds ++ gs)).all (· ≤ reachBytes) = true := hsz0
  have hW' := hW
  obtain ⟨p, q, hA0, hV, rfl, hfz, hnd⟩ := hW
  have hA : DataW.TrodAll enc Try.prog W 0 (fun _ => true) true Try.f5.params.toList args.toList ds p := hA0
  rw [Try.params5] at hA hval hsz
  have hAk := hA
  obtain ⟨v0, vs0, d0, ds0, p0, q0, hargs, rfl, rfl, h0, r0⟩ := trodAll_cons hA
  obtain ⟨v1, vs1, d1, ds1, p1, q1, rfl, rfl, rfl, h1, r1⟩ := trodAll_cons r0
  obtain ⟨v2, vs2, d2, ds2, p2, q2, rfl, rfl, rfl, h2, r2⟩ := trodAll_cons r1
  obtain ⟨rfl, rfl, rfl⟩ := trodAll_nil r2
  obtain rfl : args = #[v0, v1, v2] := by cases args; simp_all
  obtain ⟨rfl, rfl⟩ := trodVars_none hV
  obtain ⟨a0, l0, k0, L0, rfl, w0⟩ := open_slice_flat (ks := [.int .i64, .int .i64]) (bytes := 16) 8 Try.underlying54 (by kernel_rfl) (by kernel_rfl) (by decide) (by kernel_rfl) (hval 0 54 v0 rfl rfl) h0 (fun elems rest hd => by subst hd; exact sized_slice hsz (j := 0) (t := 54) (e := 58) rfl rfl Try.underlying54)
  obtain ⟨a1, rfl, rfl, rfl, w1⟩ := open_int Try.underlying5 (hval 1 5 v1 rfl rfl) h1
  obtain ⟨c2, rfl, w2⟩ := open_flat (ks := [.int .i64, .int .i64]) 8 (by kernel_rfl) (by kernel_rfl) (hval 2 58 v2 rfl rfl) h2
  clear hA0 hval0 hsz0
  refine (walk W a0 l0 k0 L0 w0 a1 w1 c2 w2).mono fun e W' ⟨he, bel⟩ => ?_
  subst he
  exact ⟨_, rfl, _, _, _, [], _, [], hW', trodAll_mk1 (shut_bool Try.underlying4 _), trodAll_below laidOut bel _ _ _ _ (by kernel_rfl) hAk, rfl, bel.frame _, fun h => by cases h⟩

theorem over : Rows.batchRoomRow.holds Try.pinned (OpenSpec.ofChange Rows.batchRoomSpec) :=
  OpenClaim.holds_of_wide 5 Try.f5 rfl rfl rfl rfl rfl rfl rfl ⟨rfl, rfl, rfl, rfl, rfl⟩ rfl rfl rfl rfl rfl (by kernel_rfl) Try.func5 (by kernel_rfl)
    (of_decide_eq_true (by kernel_rfl)) (by unfold Func.isWrapper; first | (rw [if_pos (by decide +kernel)]; kernel_rfl) | (rw [if_neg (by decide +kernel)]; exact ⟨rfl, rfl⟩))
    (fun os started H enc _ => lifted os started H enc)

theorem proved : Rows.BatchRoomSaid := over
#print axioms proved
end Go.Proofs.Ytpehdiaihlngdaa.batchRoom
