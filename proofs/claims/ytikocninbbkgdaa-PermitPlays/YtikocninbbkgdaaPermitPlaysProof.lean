/- What is proved: PermitPlays of porpoiselaw05 answers true for every input, and leaves its arguments as they were; conditions: those of the given row alone. -/
import Derived.Test.YtikocninbbkgdaaKit
import Derived.Test.YtikocninbbkgdaaLaw05
import Derived.Deep.RegionHeld3
namespace Go.Proofs.Ytikocninbbkgdaa.permitPlays
open Go.ChangeShapes Go.WideShapes Go.ChangeAt Go.RowKit Go.Deep
open Go.ChangeMaps (open_string shut_string)
set_option linter.unusedVariables false

theorem own : ownKnob Try.prog.godebug = none := by kernel_rfl
theorem laidOut : laidOutB Try.prog = true := by kernel_rfl



set_option maxRecDepth 100000 in
set_option maxHeartbeats 8000000 in
theorem walk (w : World) (a0 : Int) (w0 : (Lit.int .i64 a0).wf = true) (a1 : Option Addr) (l1 k1 : Nat) (L1 : List (List Value)) (w1 : SliceIn w [.int .i64, .int .i64, .int .i64] 24 a1 l1 k1 L1) (c2 : Array Value) (w2 : Flat [.int .i64, .int .i64] c2.toList) :
    Calls Try.prog 3 #[.int .i64 a0, .slice a1 l1 k1, .agg c2] w fun e w' => e = .returned (.bool true) ∧ Below w.heap.size w w' := by
  obtain ⟨x, y, rfl, hx0, hy0⟩ := w2.two
  have hx : wfH (x, y) := ⟨bounds_i64 hx0, bounds_i64 hy0⟩
  have hml := w1.2.2.2.2.1
  have hlk := w1.2.2.1
  unfold maxLen at hml
  have W1 := Lib.hid w1
  obtain ⟨n, hn⟩ : ∃ n, (if 100 < l1 then 100 else l1) = n := ⟨_, rfl⟩
  have hn' : n ≤ l1 ∧ n ≤ 100 ∧ (n < 100 → n = l1) := by rw [← hn]; split <;> omega
  clear w0 w1 w2 hx0 hy0 hn
  have hb1 := below_alloc w (robj (x, y))
  have hd1 := heap_alloc_at w (robj (x, y))
  generalize hW : w.alloc (robj (x, y)) = w1 at *
  have HB := Lib.hid hb1
  have HD := Lib.hid hd1
  have W2 := Lib.hid (W1.out.later hb1)
  clear hb1 hd1
  by_cases hm : a0 < 0 ∨ 8 < a0
  · go_enter Try.func3, Try.ntmps3
    go_wp2_with fail
    refine (awake_any w1).mono ?_
    rintro r wa ⟨rfl, hba⟩
    have HA := Lib.hid hba
    clear hba hW
    go_wp2_with fail
    refine (new_bad a0 wa hm).mono ?_
    rintro r wb ⟨rfl, rfl⟩
    by_cases h0 : a0 < 0
    · clear hm
      go_wp2
      go_ret
      exact ⟨rfl, HB.out.trans (HA.out.mono HB.out.size)⟩
    · have h8 : 8 < a0 := by omega
      clear hm
      go_wp2
      go_ret
      exact ⟨rfl, HB.out.trans (HA.out.mono HB.out.size)⟩
  · obtain ⟨ms, rfl⟩ : ∃ m : Nat, a0 = m := ⟨a0.toNat, by omega⟩
    have hm8 : ms ≤ 8 := by omega
    have h0 : ¬ (ms : Int) < 0 := by omega
    have h8 : ¬ (8 : Int) < (ms : Int) := by omega
    clear hm
    go_enter Try.func3, Try.ntmps3
    go_wp2_with fail
    refine (awake_any w1).mono ?_
    rintro r wa ⟨rfl, hba⟩
    have HA := Lib.hid hba
    clear hba hW
    go_wp2_with fail
    refine (ow_new w1 wa ms hm8 HA.out).mono ?_
    rintro r wb ⟨b, rfl, m, h1, _⟩
    have H1 := Lib.hid h1
    clear h1
    go_wp2
    go_loopg [9, 10] n (fun g v9 v10 wr => ∃ (i : Nat) (L : List Hol), i + g = n ∧ v10 = .int .i64 i ∧ Sy w1 wr b m ms L v9)
    case atStart => exact ⟨0, [], by omega, rfl, H1.out, OwnR.nil _ _ _⟩
    case round =>
      obtain ⟨i, L, hg, rfl, hsy⟩ := hrel
      have G := Lib.hid hg
      have SY := Lib.hid hsy
      clear hg hsy
      by_cases hin : i < n
      · have hi1 : (i : Int) < l1 := by omega
        have hi2 : (i : Int) < 100 := by omega
        obtain ⟨blk, off, kd, p, q, rfl, q0, q1, q2, hp⟩ := deed_at W2.out (i := i) (by omega)
        have p0 := cell_later SY.out.ow.low q0
        have p1 := cell_later SY.out.ow.low q1
        have p2 := cell_later SY.out.ow.low q2
        clear q0 q1 q2
        go_wp2_with fail
        refine (do_sy w1 b m ms kd p q L _ wr SY.out hp).mono ?_
        rintro r w2 ⟨v', rfl, L', h2⟩
        obtain ⟨A, k, c, hv, _, hkl, _, _⟩ := h2.row.row'
        subst hv
        have hk8 : k ≤ 8 := by have := h2.ow.prm.le; rw [hkl.out] at this; omega
        have hwf := h2.ow.prm.wf
        have s0 : Ow w1 w2.drew b m ms L' := h2.ow.ali (drew_ali _)
        have r0 : RefR w2.drew w1.heap.size (.slice A k c) L' := h2.row.ali (drew_ali _)
        have hus : ∀ v, Ow w1 v b m ms L' → Calls Try.prog 15 #[.pointer (some ⟨b, 0, none⟩)] v fun r w' => r = .returned (.int .i64 k) ∧ w' = v := fun v hv => by
          have := used_prm b m ms L' v hv.prm
          rwa [hkl.out] at this
        have hro : ∀ v, Ow w1 v b m ms L' → Calls Try.prog 16 #[.pointer (some ⟨b, 0, none⟩)] v fun r w' => r = .returned (.bool (decide (k < ms))) ∧ Ali v w' := fun v hv => by
          have := room_prm b m ms L' v hv.prm
          rwa [hkl.out] at this
        have hho : ∀ v, Ow w1 v b m ms L' → Calls Try.prog 17 #[.pointer (some ⟨b, 0, none⟩), .agg #[.int .i64 x, .int .i64 y]] v fun r w' => r = .returned (.bool (decide ((x, y) ∈ L'))) ∧ Below v.heap.size v w' := fun v hv => holds_prm b m ms L' x y v hv.prm hx
        have hrh : ∀ v, RefR v w1.heap.size (.slice A k c) L' → Calls Try.prog 19 #[.slice A k c, .agg #[.int .i64 x, .int .i64 y]] v fun r w' => r = .returned (.bool (decide ((x, y) ∈ L'))) ∧ Below v.heap.size v w' := fun v hv => rholds_any A k c x y L' v hv.row.1 hwf hx
        have hsm : ∀ (B : Option Addr) (n2 c2 : Nat) (v : World), RowR hrec v B n2 L' → RefR v w1.heap.size (.slice A k c) L' → Calls Try.prog 12 #[.slice B n2 c2, .slice A k c] v fun r w' => r = .returned (.bool true) ∧ Ali v w' := fun B n2 c2 v hB hv => by
          have := rsame_any B A n2 c2 k c L' L' v hB hv.row.1 hwf hwf
          rwa [show decide (L' = L') = true by simp] at this
        generalize decide ((x, y) ∈ L') = t at hho hrh
        have HUS := Lib.hid hus
        have HRO := Lib.hid hro
        have HHO := Lib.hid hho
        have HRH := Lib.hid hrh
        have HSM := Lib.hid hsm
        have S0 := Lib.hid s0
        have R0 := Lib.hid r0
        clear h2 p0 p1 p2 hus hro hho hrh hsm s0 r0 W1 W2 HA H1 SY
        go_wp2
        go_region_held3 (fun v => v.cell? ⟨w.heap.size, 0, none⟩ = some (.int .i64 x) ∧ v.cell? ⟨w.heap.size, 1, none⟩ = some (.int .i64 y))
          (first
            | exact rcells (kb_below HD.out S0.out.low)
            | exact rcells (kb_below HD.out s1.low)
            | exact rcells (kb_below HD.out s2.low)
            | exact rcells (kb_below HD.out s3.low)
            | exact rcells (kb_below HD.out s4.low)
            | exact rcells (kb_below HD.out s5.low)
            | exact rcells (kb_below HD.out s6.low)
            | exact rcells (kb_below HD.out s7.low))
          (first
            | (go_at_call 14; refine (all_prm b m ms L' _ S0.out.prm).mono ?_; rintro r wA ⟨vA, rfl, oA, bA⟩; obtain ⟨A1, n1, c1, hv1, rowA, nlA, _, _⟩ := oA.row'; subst hv1; have s1 := S0.out.below bA; have t1 := R0.out.below bA; have n1k : n1 ≤ 1000 := (by have h1 := nlA.out; have h2 := hkl.out; omega))
            | (go_at_call 13; refine (real_any A1 n1 c1 L' _ rowA n1k).mono ?_; rintro r wB ⟨vB, rfl, oB, bB⟩; obtain ⟨A2, n2, c2, hv2, rowB, nlB, _, _⟩ := oB.row'; subst hv2; have s2 := s1.below bB; have t2 := t1.below bB)
            | (go_at_call 12; refine (HSM.out A2 n2 c2 _ rowB t2).mono ?_; rintro r wC ⟨rfl, aC⟩; have s3 := s2.ali aC; have t3 := t2.ali aC)
            | (go_at_call 15; refine (HUS.out _ s3).mono ?_; rintro r wU ⟨rfl, rfl⟩)
            | (go_at_call 16; refine (HRO.out _ s3).mono ?_; rintro r wD ⟨rfl, aD⟩; have s4 := s3.ali aD; have t4 := t3.ali aD)
            | (go_at_call 18; refine (made_any x y _).mono ?_; rintro r wE ⟨rfl, bE⟩; have s5 := s4.below bE; have t5 := t4.below bE)
            | (go_at_call 17; refine (HHO.out _ s5).mono ?_; rintro r wF ⟨rfl, bF⟩; have s6 := s5.below bF; have t6 := t5.below bF)
            | (go_at_call 19; refine (HRH.out _ t6).mono ?_; rintro r wG ⟨rfl, bG⟩; have s7 := s6.below bG; have t7 := t6.below bG))
        have S7 : Hid (Sy w1 wG b m ms L' (.slice A k c)) := Lib.hid ⟨s7, t7⟩
        clear s1 s2 s3 s4 s5 s6 s7 t1 t2 t3 t4 t5 t6 t7 bA bB aC aD bE bF bG oA oB rowA rowB HUS HRO HHO HRH HSM S0 R0 nlA nlB
        go_wp2
        go_roundg (n - (i + 1))
        case measure => have := G.out; omega
        case rel => exact ⟨i + 1, L', by omega, by simp, S7.out⟩
      · by_cases hl : i < l1
        · have hi1 : (i : Int) < l1 := by omega
          have hi2 : ¬ (i : Int) < 100 := by omega
          go_wp2
          go_ret
          exact ⟨rfl, HB.out.trans (SY.out.ow.low.mono HB.out.size)⟩
        · have hi1 : ¬ (i : Int) < l1 := by omega
          go_wp2
          go_ret
          exact ⟨rfl, HB.out.trans (SY.out.ow.low.mono HB.out.size)⟩

set_option maxRecDepth 100000 in
theorem lifted (os : Os) (started : os.Started) (H : Type) (enc : TypeId × Value → H) :
    ReturnsInHanded {} Try.checked os 3 .any (Rows.permitPlaysSpec.pre6 enc Try.prog Try.f3 Rows.permitPlaysRow.domain false) (Rows.permitPlaysSpec.post enc Try.prog Try.f3 false true false false) := by
  refine returnsInHanded_of_change_sized (C := Try.checked) own started (by kernel_rfl) Try.func3
    (ChangeSpec.witness6 (enc := enc) (C := Try.checked) false ⟨#[], #[.int .i64 0, .slice none 0 0, .agg #[.int .i64 0, .int .i64 0]], []⟩ 8 (by kernel_rfl) (by kernel_rfl) (by kernel_rfl) (by kernel_rfl)) ?_
  intro W base args ds gs before hval0 hW hcnd hsz0 _
  have hval : ∀ (j : Nat) t v, Try.f3.params[j]? = some t → args[j]? = some v → Value.okWide Try.prog W .any base t v := hval0
  have hsz : (DataW.weightsEach Try.prog (Try.f3.params.toList ++ Rows.permitPlaysSpec.plain.varTypes Try.prog) (ds ++ gs)).all (· ≤ reachBytes) = true := hsz0
  have hW' := hW
  obtain ⟨p, q, hA0, hV, rfl, hfz, hnd⟩ := hW
  have hA : DataW.TrodAll enc Try.prog W 0 (fun _ => true) true Try.f3.params.toList args.toList ds p := hA0
  rw [Try.params3] at hA hval hsz
  have hAk := hA
  obtain ⟨v0, vs0, d0, ds0, p0, q0, hargs, rfl, rfl, h0, r0⟩ := trodAll_cons hA
  obtain ⟨v1, vs1, d1, ds1, p1, q1, rfl, rfl, rfl, h1, r1⟩ := trodAll_cons r0
  obtain ⟨v2, vs2, d2, ds2, p2, q2, rfl, rfl, rfl, h2, r2⟩ := trodAll_cons r1
  obtain ⟨rfl, rfl, rfl⟩ := trodAll_nil r2
  obtain rfl : args = #[v0, v1, v2] := by cases args; simp_all
  obtain ⟨rfl, rfl⟩ := trodVars_none hV
  obtain ⟨a0, rfl, rfl, rfl, w0⟩ := open_int Try.underlying3 (hval 0 3 v0 rfl rfl) h0
  obtain ⟨a1, l1, k1, L1, rfl, w1⟩ := open_slice_flat (ks := [.int .i64, .int .i64, .int .i64]) (bytes := 24) 8 Try.underlying22 (by kernel_rfl) (by kernel_rfl) (by decide) (by kernel_rfl) (hval 1 22 v1 rfl rfl) h1 (fun elems rest hd => by subst hd; exact sized_slice hsz (j := 1) (t := 22) (e := 32) rfl rfl Try.underlying22)
  obtain ⟨c2, rfl, w2⟩ := open_flat (ks := [.int .i64, .int .i64]) 8 (by kernel_rfl) (by kernel_rfl) (hval 2 24 v2 rfl rfl) h2
  clear hA0 hval0 hsz0
  refine (walk W a0 w0 a1 l1 k1 L1 w1 c2 w2).mono fun e W' ⟨he, bel⟩ => ?_
  subst he
  exact ⟨_, rfl, _, _, _, [], _, [], hW', trodAll_mk1 (shut_bool Try.underlying4 _), trodAll_below laidOut bel _ _ _ _ (by kernel_rfl) hAk, rfl, bel.frame _, fun h => by cases h⟩

theorem over : Rows.permitPlaysRow.holds Try.pinned (OpenSpec.ofChange Rows.permitPlaysSpec) :=
  OpenClaim.holds_of_wide 3 Try.f3 rfl rfl rfl rfl rfl rfl rfl ⟨rfl, rfl, rfl, rfl, rfl⟩ rfl rfl rfl rfl rfl (by kernel_rfl) Try.func3 (by kernel_rfl)
    (of_decide_eq_true (by kernel_rfl)) (by unfold Func.isWrapper; first | (rw [if_pos (by decide +kernel)]; kernel_rfl) | (rw [if_neg (by decide +kernel)]; exact ⟨rfl, rfl⟩))
    (fun os started H enc _ => lifted os started H enc)

theorem proved : Rows.PermitPlaysSaid := over
#print axioms proved
end Go.Proofs.Ytikocninbbkgdaa.permitPlays
