/- What is proved: WindowReset of porpoiselaw06 answers true for every input, and leaves its arguments as they were; conditions: those of the given row alone. -/
import Derived.Test.YtmnfncgalnhplaaKit
import Derived.Test.YtmnfncgalnhplaaLaw06
namespace Go.Proofs.Ytmnfncgalnhplaa.windowReset
open Go.ChangeShapes Go.WideShapes Go.ChangeAt Go.RowKit Go.Deep
open Go.ChangeMaps (open_string shut_string)
set_option linter.unusedVariables false

theorem own : ownKnob Try.prog.godebug = none := by kernel_rfl
theorem laidOut : laidOutB Try.prog = true := by kernel_rfl



set_option maxRecDepth 100000 in
set_option maxHeartbeats 2000000 in
theorem walk (w : World) (a0 : Option Addr) (l0 k0 : Nat) (L0 : List (List Value)) (w0 : SliceIn w [.int .i64, .int .i64, .int .u64, .int .u64] 32 a0 l0 k0 L0) (a1 : Int) (w1 : (Lit.int .u64 a1).wf = true) (a2 : Int) (w2 : (Lit.int .u8 a2).wf = true) :
    Calls Try.prog 6 #[.slice a0 l0 k0, .int .u64 a1, .int .u8 a2] w fun e w' => e = .returned (.bool true) ∧ Below w.heap.size w w' := by
  have b1 := wf_u64 w1
  have b2 := bounds_u8 w2
  obtain ⟨k, hk⟩ : ∃ k : Nat, a2 % 5 = k := ⟨(a2 % 5).toNat, by omega⟩
  have k5 : k < 5 := by omega
  obtain ⟨n, hn⟩ : ∃ n, (if 100 < l0 then 100 else l0) = n := ⟨_, rfl⟩
  have hn' : n ≤ l0 ∧ n ≤ 100 ∧ (n < 100 → n = l0) := by rw [← hn]; split <;> omega
  have hml := w0.2.2.2.2.1
  have hlk := w0.2.2.1
  unfold maxLen at hml
  have HS := Lib.hid w0
  have HK := Lib.hid hk
  clear w0 w1 w2 hn hk
  go_enter Try.func6, Try.ntmps6
  go_wp2_with fail
  refine (awake_any _).mono ?_
  rintro r wa ⟨rfl, hba⟩
  have HA := Lib.hid hba
  clear hba
  go_wp2_with fail
  refine (ow_new w wa 4 10 (by omega) (by omega) (by omega) (by omega) HA.out).mono ?_
  rintro r w1 ⟨rfl, h1, _⟩
  have H1 := Lib.hid h1
  clear h1
  generalize wa.heap.size = b at *
  go_wp2
  go_loopg [9, 10] n (fun g v9 v10 wr => ∃ (i now : Nat), i + g = n ∧ v10 = .int .i64 i ∧ now ≤ 18446744073709551615 ∧ v9 = .int .u64 now ∧ ∃ t F, OwW w wr b 4 10 t F)
  case atStart => exact ⟨0, 0, by omega, rfl, by omega, rfl, _, _, H1.out⟩
  case round =>
    obtain ⟨i, now, hg, rfl, hnow, rfl, t, F, ho⟩ := hrel
    have G := Lib.hid hg
    have O := Lib.hid ho
    clear hg ho
    by_cases hin : i < n
    · have hi1 : (i : Int) < l0 := by omega
      have hi2 : (i : Int) < 100 := by omega
      obtain ⟨blk, off, kd, x, m, rfl, q0, q1, q2, hx, hm⟩ := deed_at HS.out (i := i) (by omega)
      have p0 := cell_later O.out.low q0
      have p1 := cell_later O.out.low q1
      have p2 := cell_later O.out.low q2
      clear q0 q1 q2
      have hab := addS_bd (a := now) (b := x) (by omega) hx.1
      have hla := later_any now x wr (by omega) hx.1 (by omega) hx.2
      obtain ⟨now', hno⟩ : ∃ now' : Nat, addS now x = now' := ⟨(addS now x).toNat, by omega⟩
      rw [hno] at hla hab
      clear hno
      go_wp2_with fail
      refine hla.mono ?_
      clear hla
      rintro r w2 ⟨rfl, rfl⟩
      go_wp2
      refine region_tail 12 (by kernel_rfl) (by kernel_rfl) ?_
      simp only [List.take_succ_cons, List.take_zero, List.drop_succ_cons, List.drop_zero]
      generalize hwd : wr.drew = wd
      have r0 : wd.cell? ⟨blk, off + i * 4 + 1, none⟩ = some (.int .i64 kd) := by rw [← hwd]; exact p0
      have r2 : wd.cell? ⟨blk, off + i * 4 + 3, none⟩ = some (.int .u64 m) := by rw [← hwd]; exact p2
      have OD := Lib.hid (show OwW w wd b 4 10 t F by rw [← hwd]; exact O.out.ali (drew_ali _))
      clear hwd p0 p1 p2
      repeat still_step
      refine wpStill_nil ?_
      go_wp2_with fail
      refine (ow_addany w b 4 10 t now' kd m F wd OD.out (by omega) hm.1 hm.2).mono ?_
      rintro r w3 ⟨ok, rfl, _, t', F', o3⟩
      have O3 := Lib.hid o3
      clear o3 r0 r2
      go_wp2
      go_roundg (n - (i + 1))
      case measure => have := G.out; omega
      case rel => exact ⟨i + 1, now', by omega, by simp, by omega, rfl, _, _, O3.out⟩
    · have hnl : ¬ ((i : Int) < l0 ∧ (i : Int) < 100) := by omega
      have hab := addS_bd (a := now) (b := a1) (by omega) b1.1
      have hla := fun v => later_any now a1 v (by omega) b1.1 (by omega) b1.2
      obtain ⟨now', hno⟩ : ∃ now' : Nat, addS now a1 = now' := ⟨(addS now a1).toNat, by omega⟩
      rw [hno] at hla hab
      have HLA := Lib.hid hla
      have s0 := same5 (a := 0) (b := 0) (c := 0) (d := 0) (e := 0) (by omega) (by omega) (by omega) (by omega) (by omega)
      clear hno hla
      have hdec : ((i : Int) < l0 ∧ ¬ (i : Int) < 100) ∨ (¬ (i : Int) < l0) := by omega
      clear hnl hin
      rcases hdec with ⟨hi1, hi2⟩ | hi1
      all_goals
        go_wp2_with fail
        refine (reset_win b 4 10 t F wr O.out.win).mono ?_
        rintro r w2 ⟨rfl, hf, hw⟩
        have O2 := Lib.hid (O.out.after hf hw)
        clear hf hw
        go_wp2_with fail
        refine (HLA.out _).mono ?_
        rintro r w3' ⟨rfl, rfl⟩
        have hz := heap_alloc_at w2 (tobj [0, 0, 0, 0, 0])
        have hbz := below_alloc w2 (tobj [0, 0, 0, 0, 0])
        obtain ⟨w3, hw3⟩ : ∃ w3, w2.alloc (tobj [0, 0, 0, 0, 0]) = w3 := ⟨_, rfl⟩
        rw [hw3] at hz hbz
        simp only [tobj, List.map_cons, List.map_nil] at hw3
        rw [hw3]
        have O3 := Lib.hid (O2.out.below hbz)
        clear hbz hw3
        have hgw : w.heap.size ≤ w2.heap.size := O2.out.low.size
        generalize w2.heap.size = g at *
        have Z3 := Lib.hid hz
        clear hz
        go_wp2_with fail
        obtain ⟨t4, ht4⟩ : ∃ t4, max (now' / 10) t = t4 := ⟨_, rfl⟩
        refine (ow_counts w b 4 10 t now' _ w3 t4 0 0 0 0 0 O3.out (by omega) ht4 (sat_none _ _ _) (sat_none _ _ _) (sat_none _ _ _) (sat_none _ _ _) (sat_none _ _ _)).mono ?_
        rintro r w4 ⟨rfl, hf, o4⟩
        have Z4 := Lib.hid (O3.out.win.kept hf Z3.out (by decide))
        have O4 := Lib.hid o4
        have HT4 := Lib.hid ht4
        clear hf o4 ht4 Z3
        have hk := HK.out
        go_wp2_with fail
        have hz := heap_alloc_at w4 (tobj [0, 0, 0, 0, 0])
        have hbz := below_alloc w4 (tobj [0, 0, 0, 0, 0])
        obtain ⟨w5, hw5⟩ : ∃ w5, w4.alloc (tobj [0, 0, 0, 0, 0]) = w5 := ⟨_, rfl⟩
        rw [hw5] at hz hbz
        simp only [tobj, List.map_cons, List.map_nil] at hw5
        rw [hw5]
        have hgg : g ≠ w4.heap.size := by have := heap_lt Z4.out; omega
        have O5 := Lib.hid (O4.out.below hbz)
        have Y5 := Lib.hid (kb_below Z4.out hbz)
        clear hbz hw5
        generalize w4.heap.size = ga at *
        have Z5 := Lib.hid hz
        clear hz Z4 O4 O3 O2 O
        refine (ow_add w b 4 10 t4 0 k 1 _ w5 t4 (upd (fun _ _ => 0) t4 k 1) O5.out (by omega) k5 (by omega) (by omega) (by simp) (by simp [addS])).mono ?_
        rintro r w6 ⟨rfl, hf, o6⟩
        have Y6 := Lib.hid (O5.out.win.kept hf Y5.out (by decide))
        have Z6 := Lib.hid (O5.out.win.kept hf Z5.out (by decide))
        have O6 := Lib.hid o6
        clear hf o6 Y5 Z5 O5
        go_wp2_with fail
        refine (ow_counts w b 4 10 t4 0 _ w6 t4 _ _ _ _ _ O6.out (by omega) (by simp) (sat_one _ _ _ (by omega)) (sat_one _ _ _ (by omega)) (sat_one _ _ _ (by omega)) (sat_one _ _ _ (by omega)) (sat_one _ _ _ (by omega))).mono ?_
        rintro r w7 ⟨rfl, hf, o7⟩
        have y7 := O6.out.win.kept hf Y6.out (by decide)
        have z7 := O6.out.win.kept hf Z6.out (by decide)
        have O7 := Lib.hid o7
        have hg1 := heap_lt y7
        have hg2 := heap_lt z7
        have tt : t4 ≤ t4 ∧ t4 < t4 + 4 := by omega
        simp only [tt, and_true]
        have c0 := tobj_cell y7 (j := 0) rfl
        have c1 := tobj_cell y7 (j := 1) rfl
        have c2 := tobj_cell y7 (j := 2) rfl
        have c3 := tobj_cell y7 (j := 3) rfl
        have c4 := tobj_cell y7 (j := 4) rfl
        have f0 := frozen_of y7
        have d0 := tobj_cell z7 (j := 0) rfl
        have d1 := tobj_cell z7 (j := 1) rfl
        have d2 := tobj_cell z7 (j := 2) rfl
        have d3 := tobj_cell z7 (j := 3) rfl
        have d4 := tobj_cell z7 (j := 4) rfl
        clear hf o7 Y6 Z6 O6 y7 z7 tt hk
        have ha2 := HK.out
        have e0 := same5 (a := 1) (b := 0) (c := 0) (d := 0) (e := 0) (by omega) (by omega) (by omega) (by omega) (by omega)
        have e1 := same5 (a := 0) (b := 1) (c := 0) (d := 0) (e := 0) (by omega) (by omega) (by omega) (by omega) (by omega)
        have e2 := same5 (a := 0) (b := 0) (c := 1) (d := 0) (e := 0) (by omega) (by omega) (by omega) (by omega) (by omega)
        have e3 := same5 (a := 0) (b := 0) (c := 0) (d := 1) (e := 0) (by omega) (by omega) (by omega) (by omega) (by omega)
        have e4 := same5 (a := 0) (b := 0) (c := 0) (d := 0) (e := 1) (by omega) (by omega) (by omega) (by omega) (by omega)
        rcases (show k = 0 ∨ k = 1 ∨ k = 2 ∨ k = 3 ∨ k = 4 by omega) with rfl | rfl | rfl | rfl | rfl
        all_goals
          go_wp2
          go_ret
          exact ⟨rfl, (((Frm.of_below (F := fun _ => False) O7.out.low).new hgw _ _).then_below (below_alloc _ _)).below (Nat.le_refl _) (fun _ _ h => h)⟩

set_option maxRecDepth 100000 in
theorem lifted (os : Os) (started : os.Started) (H : Type) (enc : TypeId × Value → H) :
    ReturnsInHanded {} Try.checked os 6 .any (Rows.windowResetSpec.pre6 enc Try.prog Try.f6 Rows.windowResetRow.domain false) (Rows.windowResetSpec.post enc Try.prog Try.f6 false true false false) := by
  refine returnsInHanded_of_change_sized (C := Try.checked) own started (by kernel_rfl) Try.func6
    (ChangeSpec.witness6 (enc := enc) (C := Try.checked) false ⟨#[], #[.slice none 0 0, .int .u64 0, .int .u8 0], []⟩ 8 (by kernel_rfl) (by kernel_rfl) (by kernel_rfl) (by kernel_rfl)) ?_
  intro W base args ds gs before hval0 hW hcnd hsz0 _
  have hval : ∀ (j : Nat) t v, Try.f6.params[j]? = some t → args[j]? = some v → Value.okWide Try.prog W .any base t v := hval0
  have hsz : (DataW.weightsEach Try.prog (Try.f6.params.toList ++ Rows.windowResetSpec.plain.varTypes Try.prog) (ds ++ gs)).all (· ≤ reachBytes) = true := hsz0
  have hW' := hW
  obtain ⟨p, q, hA0, hV, rfl, hfz, hnd⟩ := hW
  have hA : DataW.TrodAll enc Try.prog W 0 (fun _ => true) true Try.f6.params.toList args.toList ds p := hA0
  rw [Try.params6] at hA hval hsz
  have hAk := hA
  obtain ⟨v0, vs0, d0, ds0, p0, q0, hargs, rfl, rfl, h0, r0⟩ := trodAll_cons hA
  obtain ⟨v1, vs1, d1, ds1, p1, q1, rfl, rfl, rfl, h1, r1⟩ := trodAll_cons r0
  obtain ⟨v2, vs2, d2, ds2, p2, q2, rfl, rfl, rfl, h2, r2⟩ := trodAll_cons r1
  obtain ⟨rfl, rfl, rfl⟩ := trodAll_nil r2
  obtain rfl : args = #[v0, v1, v2] := by cases args; simp_all
  obtain ⟨rfl, rfl⟩ := trodVars_none hV
  obtain ⟨a0, l0, k0, L0, rfl, w0⟩ := open_slice_flat (ks := [.int .i64, .int .i64, .int .u64, .int .u64]) (bytes := 32) 8 Try.underlying33 (by kernel_rfl) (by kernel_rfl) (by decide) (by kernel_rfl) (hval 0 33 v0 rfl rfl) h0 (fun elems rest hd => by subst hd; exact sized_slice hsz (j := 0) (t := 33) (e := 37) rfl rfl Try.underlying33)
  obtain ⟨a1, rfl, rfl, rfl, w1⟩ := open_int Try.underlying26 (hval 1 26 v1 rfl rfl) h1
  obtain ⟨a2, rfl, rfl, rfl, w2⟩ := open_int Try.underlying5 (hval 2 5 v2 rfl rfl) h2
  clear hA0 hval0 hsz0
  refine (walk W a0 l0 k0 L0 w0 a1 w1 a2 w2).mono fun e W' ⟨he, bel⟩ => ?_
  subst he
  exact ⟨_, rfl, _, _, _, [], _, [], hW', trodAll_mk1 (shut_bool Try.underlying4 _), trodAll_below laidOut bel _ _ _ _ (by kernel_rfl) hAk, rfl, bel.frame _, fun h => by cases h⟩

theorem over : Rows.windowResetRow.holds Try.pinned (OpenSpec.ofChange Rows.windowResetSpec) :=
  OpenClaim.holds_of_wide 6 Try.f6 rfl rfl rfl rfl rfl rfl rfl ⟨rfl, rfl, rfl, rfl, rfl⟩ rfl rfl rfl rfl rfl (by kernel_rfl) Try.func6 (by kernel_rfl)
    (of_decide_eq_true (by kernel_rfl)) (by unfold Func.isWrapper; first | (rw [if_pos (by decide +kernel)]; kernel_rfl) | (rw [if_neg (by decide +kernel)]; exact ⟨rfl, rfl⟩))
    (fun os started H enc _ => lifted os started H enc)

theorem proved : Rows.WindowResetSaid := over
#print axioms proved
end Go.Proofs.Ytmnfncgalnhplaa.windowReset
