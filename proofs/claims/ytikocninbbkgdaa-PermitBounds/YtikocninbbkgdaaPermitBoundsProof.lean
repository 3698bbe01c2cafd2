/- What is proved: PermitBounds of porpoiselaw05 answers true for every input, and leaves its arguments as they were; conditions: those of the given row alone. -/
import Derived.Test.YtikocninbbkgdaaKit
import Derived.Test.YtikocninbbkgdaaLaw05
namespace Go.Proofs.Ytikocninbbkgdaa.permitBounds
open Go.ChangeShapes Go.WideShapes Go.ChangeAt Go.RowKit Go.Deep
open Go.ChangeMaps (open_string shut_string)
set_option linter.unusedVariables false

theorem own : ownKnob Try.prog.godebug = none := by kernel_rfl
theorem laidOut : laidOutB Try.prog = true := by kernel_rfl



set_option maxRecDepth 100000 in
set_option maxHeartbeats 4000000 in
theorem walk (w : World) (a0 : Option Addr) (l0 k0 : Nat) (L0 : List (List Value)) (w0 : SliceIn w [.int .i64, .int .i64, .int .i64] 24 a0 l0 k0 L0) :
    Calls Try.prog 4 #[.slice a0 l0 k0] w fun e w' => e = .returned (.bool true) ∧ Below w.heap.size w w' := by
  have W0 := Lib.hid w0
  clear w0
  go_enter Try.func4, Try.ntmps4
  go_wp2_with fail
  refine (awake_any _).mono ?_
  rintro r wa ⟨rfl, hba⟩
  have HA := Lib.hid hba
  clear hba
  go_wp2_with fail
  refine (ran_any w a0 l0 k0 L0 wa W0.out HA.out).mono ?_
  rintro r w2 ⟨b, rfl, m, L, h2⟩
  have H2 := Lib.hid h2
  have hl4 : L.length ≤ 4 := h2.prm.le
  clear h2
  go_wp2_with fail
  refine (all_prm b m 4 L w2 H2.out.prm).mono ?_
  rintro r w3 ⟨v3, rfl, ho, hb⟩
  obtain ⟨A, n, c, hv, _, hnl, _, _⟩ := ho.row'
  subst hv
  have H3 := Lib.hid (H2.out.below hb)
  have O3 := Lib.hid (ho.mono H2.out.low.size)
  have hn4 : n ≤ 4 := by have := hnl.out; omega
  clear ho hb
  go_wp2
  go_loopg [6] n (fun g v6 wr => ∃ i : Nat, i + g = n ∧ v6 = .int .i64 i ∧ Ow w wr b m 4 L ∧ HolR wr w.heap.size (.slice A n c) L)
  case atStart => exact ⟨0, by omega, rfl, H3.out, O3.out⟩
  case round =>
    obtain ⟨i, hg, rfl, ho, hi⟩ := hrel
    have G := Lib.hid hg
    have O := Lib.hid ho
    have I := Lib.hid hi
    clear hg
    by_cases hin : i < n
    · have hin' : (i : Int) < n := by omega
      obtain ⟨bb, off, z1, z2, rfl, hz, q0, q1⟩ := hi.row.1.two hin
      have hzm : (z1, z2) ∈ L := List.mem_of_getElem? hz
      have hzw := O.out.prm.wf _ hzm
      have hgo : ∀ q os, Ow w (Sort.grow (wr.drewN q) os) b m 4 L := fun q os => O.out.below (grow_below wr q os)
      have hho : ∀ q os, Calls Try.prog 17 #[.pointer (some ⟨b, 0, none⟩), .agg #[.int .i64 z1, .int .i64 z2]] (Sort.grow (wr.drewN q) os) fun r w' => r = .returned (.bool true) ∧ ∃ q' os', w' = Sort.grow ((Sort.grow (wr.drewN q) os).drewN q') os' := fun q os => by
        have := holds_grow b m 4 L z1 z2 _ (hgo q os).prm hzw
        rwa [decide_eq_true hzm] at this
      have g0 : ∀ q os, (Sort.grow (wr.drewN q) os).cell? ⟨bb, off + i * 2, none⟩ = some (.int .i64 z1) := fun q os => cell_grown (cell_lt q0) q0 q os
      have g1 : ∀ q os, (Sort.grow (wr.drewN q) os).cell? ⟨bb, off + i * 2 + 1, none⟩ = some (.int .i64 z2) := fun q os => cell_grown (cell_lt q1) q1 q os
      have hmix : Try.prog.follows .mixedOrders = true := by kernel_rfl
      have HZ := Lib.hid hz
      have HGO := Lib.hid hgo
      by_cases hi0 : i = 0
      · subst hi0
        simp only [Nat.zero_mul, Nat.add_zero] at g0 g1
        clear ho hi hz hzm hzw hgo q0 q1 W0 HA H2 hl4 H3 O3
        go_wp2
        refine wp_region_quiet_grown hmix (by kernel_rfl) ?_
        repeat (go_big_quiet_step (first | (go_at_call 17; refine Calls.grown_of (hho _ _))))
        refine wpQuiet_nil ?_
        intro _ hw'
        obtain ⟨⟨nq, osq⟩, hw''⟩ := hw'
        subst hw''
        go_wp2
        go_roundg (n - (0 + 1))
        case measure => have := G.out; omega
        case rel => exact ⟨0 + 1, by omega, by simp, HGO.out _ _, I.out.below (grow_below _ _ _)⟩
      · obtain ⟨k, rfl⟩ : ∃ k, i = k + 1 := ⟨i - 1, by omega⟩
        obtain ⟨bb', off', y1, y2, e, hy, p0, p1⟩ := hi.row.1.two (i := k) (by omega)
        injection e with e
        injection e with e1 e2
        subst e1 e2
        have g2 : ∀ q os, (Sort.grow (wr.drewN q) os).cell? ⟨bb, off + k * 2, none⟩ = some (.int .i64 y1) := fun q os => cell_grown (cell_lt p0) p0 q os
        have g3 : ∀ q os, (Sort.grow (wr.drewN q) os).cell? ⟨bb, off + k * 2 + 1, none⟩ = some (.int .i64 y2) := fun q os => cell_grown (cell_lt p1) p1 q os
        have hlt : ltH (y1, y2) (z1, z2) = true := by
          obtain ⟨l1, e1⟩ := List.getElem?_eq_some_iff.1 hy
          obtain ⟨l2, e2⟩ := List.getElem?_eq_some_iff.1 hz
          have := List.pairwise_iff_getElem.1 O.out.prm.rise k (k + 1) l1 l2 (by omega)
          rwa [e1, e2] at this
        rw [ltH_iff] at hlt
        have hwp : IntKind.i64.wrap (k : Int) = (k : Int) := by rw [IntKind.wrap_i64]; omega
        have hk1 : (k : Int) < n := by omega
        have hk2 : (k : Int) + 1 < n := by omega
        have hk3 : (0 : Int) < (k : Int) + 1 := by omega
        have hk4 : (0 : Int) ≤ (k : Int) + 1 := by omega
        have hk5 : ((k : Int) + 1).toNat = k + 1 := by omega
        clear ho hi hz hzm hzw hgo q0 q1 p0 p1 hy hi0 W0 HA H2 hl4 H3 O3
        by_cases h1 : y1 < z1
        · have h2 : ¬ z1 < y1 := by omega
          have h3 : (y1 == z1) = false := by simp; omega
          clear hlt
          go_wp2
          have h2' : decide (z1 < y1) = false := by simp; omega
          refine wp_region_quiet_grown hmix (by kernel_rfl) ?_
          repeat (go_big_quiet_step (first | (go_at_call 17; refine Calls.grown_of (hho _ _))))
          refine wpQuiet_nil ?_
          intro _ hw'
          obtain ⟨⟨nq, osq⟩, hw''⟩ := hw'
          subst hw''
          go_wp2
          go_roundg (n - (k + 1 + 1))
          case measure => have := G.out; omega
          case rel => exact ⟨k + 1 + 1, by omega, by simp, HGO.out _ _, I.out.below (grow_below _ _ _)⟩
        · obtain ⟨rfl, h4⟩ : y1 = z1 ∧ y2 < z2 := by
            rcases hlt with a | a
            · exact (h1 a).elim
            · exact a
          have h5 : ¬ z2 ≤ y2 := by omega
          have h6 : (y1 == y1) = true := by simp
          clear hlt
          go_wp2
          refine wp_region_quiet_grown hmix (by kernel_rfl) ?_
          repeat (go_big_quiet_step (first | (go_at_call 17; refine Calls.grown_of (hho _ _))))
          refine wpQuiet_nil ?_
          intro _ hw'
          obtain ⟨⟨nq, osq⟩, hw''⟩ := hw'
          subst hw''
          go_wp2
          go_roundg (n - (k + 1 + 1))
          case measure => have := G.out; omega
          case rel => exact ⟨k + 1 + 1, by omega, by simp, HGO.out _ _, I.out.below (grow_below _ _ _)⟩
    · have hin' : ¬ (i : Int) < n := by omega
      have hn4' : (n : Int) ≤ 4 := by omega
      have hu := used_prm b m 4 L wr ho.prm
      have hro := fun w' (h : Ow w w' b m 4 L) => room_prm b m 4 L w' h.prm
      rw [hnl.out] at hu hro
      clear ho hi
      go_wp2_with fail
      refine hu.mono ?_
      clear hu
      rintro r w4 ⟨rfl, rfl⟩
      go_wp2_with fail
      refine (hro _ O.out).mono ?_
      clear hro
      rintro r w5 ⟨rfl, ha⟩
      have H5 := Lib.hid (O.out.ali ha)
      clear ha
      go_wp2
      go_ret
      refine ⟨ret_bool ?_, H5.out.low⟩
      have : decide ((n : Int) < 4) = decide (n < 4) := by by_cases h : n < 4 <;> simp [h] <;> omega
      simp [this]

set_option maxRecDepth 100000 in
theorem lifted (os : Os) (started : os.Started) (H : Type) (enc : TypeId × Value → H) :
    ReturnsInHanded {} Try.checked os 4 .any (Rows.permitBoundsSpec.pre6 enc Try.prog Try.f4 Rows.permitBoundsRow.domain false) (Rows.permitBoundsSpec.post enc Try.prog Try.f4 false true false false) := by
  refine returnsInHanded_of_change_sized (C := Try.checked) own started (by kernel_rfl) Try.func4
    (ChangeSpec.witness6 (enc := enc) (C := Try.checked) false ⟨#[], #[.slice none 0 0], []⟩ 8 (by kernel_rfl) (by kernel_rfl) (by kernel_rfl) (by kernel_rfl)) ?_
  intro W base args ds gs before hval0 hW hcnd hsz0 _
  have hval : ∀ (j : Nat) t v, Try.f4.params[j]? = some t → args[j]? = some v → Value.okWide Try.prog W .any base t v := hval0
  have hsz : (DataW.weightsEach Try.prog (Try.f4.params.toList ++ Rows.permitBoundsSpec.plain.varTypes Try.prog) (ds ++ gs)).all (· ≤ reachBytes) = true := hsz0
  have hW' := hW
  obtain ⟨p, q, hA0, hV, rfl, hfz, hnd⟩ := hW
  have hA : DataW.TrodAll enc Try.prog W 0 (fun _ => true) true Try.f4.params.toList args.toList ds p := hA0
  rw [Try.params4] at hA hval hsz
  have hAk := hA
  obtain ⟨v0, vs0, d0, ds0, p0, q0, hargs, rfl, rfl, h0, r0⟩ := trodAll_cons hA
  obtain ⟨rfl, rfl, rfl⟩ := trodAll_nil r0
  obtain rfl : args = #[v0] := by cases args; simp_all
  obtain ⟨rfl, rfl⟩ := trodVars_none hV
  obtain ⟨a0, l0, k0, L0, rfl, w0⟩ := open_slice_flat (ks := [.int .i64, .int .i64, .int .i64]) (bytes := 24) 8 Try.underlying22 (by kernel_rfl) (by kernel_rfl) (by decide) (by kernel_rfl) (hval 0 22 v0 rfl rfl) h0 (fun elems rest hd => by subst hd; exact sized_slice hsz (j := 0) (t := 22) (e := 32) rfl rfl Try.underlying22)
  clear hA0 hval0 hsz0
  refine (walk W a0 l0 k0 L0 w0).mono fun e W' ⟨he, bel⟩ => ?_
  subst he
  exact ⟨_, rfl, _, _, _, [], _, [], hW', trodAll_mk1 (shut_bool Try.underlying4 _), trodAll_below laidOut bel _ _ _ _ (by kernel_rfl) hAk, rfl, bel.frame _, fun h => by cases h⟩

theorem over : Rows.permitBoundsRow.holds Try.pinned (OpenSpec.ofChange Rows.permitBoundsSpec) :=
  OpenClaim.holds_of_wide 4 Try.f4 rfl rfl rfl rfl rfl rfl rfl ⟨rfl, rfl, rfl, rfl, rfl⟩ rfl rfl rfl rfl rfl (by kernel_rfl) Try.func4 (by kernel_rfl)
    (of_decide_eq_true (by kernel_rfl)) (by unfold Func.isWrapper; first | (rw [if_pos (by decide +kernel)]; kernel_rfl) | (rw [if_neg (by decide +kernel)]; exact ⟨rfl, rfl⟩))
    (fun os started H enc _ => lifted os started H enc)

theorem proved : Rows.PermitBoundsSaid := over
#print axioms proved
end Go.Proofs.Ytikocninbbkgdaa.permitBounds
