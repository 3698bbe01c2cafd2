/- What is proved: RingPlays of porpoiselaw04 answers true for every input, and leaves its arguments as they were; conditions: those of the given row alone. -/
import Derived.Test.YtlfeenibepmicaaKit
import Derived.Test.YtlfeenibepmicaaLaw04
namespace Go.Proofs.Ytlfeenibepmicaa.ringPlays
open Go.ChangeShapes Go.WideShapes Go.ChangeAt Go.RowKit Go.Deep
open Go.ChangeMaps (open_string shut_string)
set_option linter.unusedVariables false

theorem own : ownKnob Try.prog.godebug = none := by kernel_rfl
theorem laidOut : laidOutB Try.prog = true := by kernel_rfl



set_option maxRecDepth 100000 in
set_option maxHeartbeats 2000000 in
theorem walk (w : World) (a0 : Int) (w0 : (Lit.int .i64 a0).wf = true) (a1 : Option Addr) (l1 k1 : Nat) (L1 : List (List Value)) (w1 : SliceIn w [.int .i64, .int .i64] 16 a1 l1 k1 L1) :
    Calls Try.prog 3 #[.int .i64 a0, .slice a1 l1 k1] w fun e w' => e = .returned (.bool true) ∧ Below w.heap.size w w' := by
  have hx := wf_of w0
  obtain ⟨n, hn⟩ : ∃ n, (if 100 < l1 then 100 else l1) = n := ⟨_, rfl⟩
  have hn' : n ≤ l1 ∧ n ≤ 100 ∧ (n < 100 → n = l1) := by rw [← hn]; split <;> omega
  have hml := w1.2.2.2.2.1
  have hlk := w1.2.2.1
  unfold maxLen at hml
  have W1 := Lib.hid w1
  clear w0 w1 hn
  by_cases hm : a0 < 0 ∨ 8 < a0
  · go_enter Try.func3, Try.ntmps3
    go_wp2_with fail
    refine (awake_any _).mono ?_
    rintro r wa ⟨rfl, hba⟩
    have HA := Lib.hid hba
    clear hba
    go_wp2_with fail
    refine (new_none a0 wa hm).mono ?_
    rintro r wb ⟨rfl, rfl⟩
    by_cases h0 : a0 < 0
    · clear hm
      go_wp2
      go_ret
      exact ⟨rfl, HA.out⟩
    · have h8 : 8 < a0 := by omega
      clear hm
      go_wp2
      go_ret
      exact ⟨rfl, HA.out⟩
  · obtain ⟨m, rfl⟩ : ∃ m : Nat, a0 = m := ⟨a0.toNat, by omega⟩
    have hm8 : m ≤ 8 := by omega
    have h0 : ¬ (m : Int) < 0 := by omega
    have h8 : ¬ (8 : Int) < (m : Int) := by omega
    clear hm
    go_enter Try.func3, Try.ntmps3
    go_wp2_with fail
    refine (awake_any _).mono ?_
    rintro r wa ⟨rfl, hba⟩
    have HA := Lib.hid hba
    clear hba
    go_wp2_with fail
    refine (ow_new w wa m hm8 HA.out).mono ?_
    rintro r wb ⟨rfl, h1, _⟩
    have H1 := Lib.hid h1
    clear h1
    generalize wa.heap.size = b at *
    go_wp2
    go_loopg [7, 8] n (fun g v7 v8 wr => ∃ (i : Nat) (L : List Int), i + g = n ∧ v8 = .int .i64 i ∧ Sy w wr b m L v7)
    case atStart => exact ⟨0, [], by omega, rfl, H1.out, Ints.nil _ _⟩
    case round =>
      obtain ⟨i, L, hg, rfl, hsy⟩ := hrel
      have G := Lib.hid hg
      have SY := Lib.hid hsy
      clear hg hsy
      by_cases hin : i < n
      · have hi1 : (i : Int) < l1 := by omega
        have hi2 : (i : Int) < 100 := by omega
        obtain ⟨blk, off, kd, x, rfl, q0, q1, hx⟩ := deed_at W1.out (i := i) (by omega)
        have p0 := cell_later SY.out.ow.low q0
        have p1 := cell_later SY.out.ow.low q1
        clear q0 q1
        go_wp2_with fail
        refine (do_any w b m kd x L _ wr SY.out hx).mono ?_
        rintro r w2 ⟨v', rfl, L', h2⟩
        obtain ⟨A, k, c, hv, _, hkl, _, _⟩ := own_row' h2.row
        subst hv
        have H2 := Lib.hid h2
        clear h2 p0 p1
        go_wp2_with fail
        refine (list_ring b m L' w2 H2.out.ow.rng).mono ?_
        rintro r w3 ⟨v3, rfl, hi, hb⟩
        have h3 := H2.out.below hb
        have hr3 := h3.row.row
        obtain ⟨B, k', d, hv, hrow, hkl', _, _⟩ := own_row' hi
        subst hv
        have H3 := Lib.hid h3
        have hsm := same_any B A k' d k c L' L' w3 hrow hkl'.out hr3.1 hr3.2.1
        rw [show decide (L' = L') = true by simp] at hsm
        clear hi hb h3 hr3 hrow
        go_wp2_with fail
        refine hsm.mono ?_
        clear hsm
        rintro r w4 ⟨rfl, ha⟩
        have H4 := Lib.hid (H3.out.ali ha)
        clear ha
        have hlen := len_ring b m L' w4 H4.out.ow.rng
        have hful := full_ring b m L' w4 H4.out.ow.rng
        rw [hkl.out] at hlen hful
        go_wp2_with fail
        refine hlen.mono ?_
        clear hlen
        rintro r w5 ⟨rfl, rfl⟩
        go_wp2_with fail
        refine hful.mono ?_
        clear hful
        rintro r w6 ⟨rfl, ha⟩
        have H6 := Lib.hid (H4.out.ali ha)
        clear ha
        go_wp2
        go_roundg (n - (i + 1))
        case measure => have := G.out; omega
        case rel => exact ⟨i + 1, L', by omega, by simp, H6.out⟩
      · by_cases hl : i < l1
        · have hi1 : (i : Int) < l1 := by omega
          have hi2 : ¬ (i : Int) < 100 := by omega
          go_wp2
          go_ret
          exact ⟨rfl, SY.out.ow.low⟩
        · have hi1 : ¬ (i : Int) < l1 := by omega
          go_wp2
          go_ret
          exact ⟨rfl, SY.out.ow.low⟩

set_option maxRecDepth 100000 in
theorem lifted (os : Os) (started : os.Started) (H : Type) (enc : TypeId × Value → H) :
    ReturnsInHanded {} Try.checked os 3 .any (Rows.ringPlaysSpec.pre6 enc Try.prog Try.f3 Rows.ringPlaysRow.domain false) (Rows.ringPlaysSpec.post enc Try.prog Try.f3 false true false false) := by
  refine returnsInHanded_of_change_sized (C := Try.checked) own started (by kernel_rfl) Try.func3
    (ChangeSpec.witness6 (enc := enc) (C := Try.checked) false ⟨#[], #[.int .i64 0, .slice none 0 0], []⟩ 8 (by kernel_rfl) (by kernel_rfl) (by kernel_rfl) (by kernel_rfl)) ?_
  intro W base args ds gs before hval0 hW hcnd hsz0 _
  have hval : ∀ (j : Nat) t v, Try.f3.params[j]? = some t → args[j]? = some v → Value.okWide Try.prog W .any base t v := hval0
  have hsz : (DataW.weightsEach Try.prog (Try.f3.params.toList ++ Rows.ringPlaysSpec.plain.varTypes Try.prog) (ds ++ gs)).all (· ≤ reachBytes) = true := hsz0
  have hW' := hW
  obtain ⟨p, q, hA0, hV, rfl, hfz, hnd⟩ := hW
  have hA : DataW.TrodAll enc Try.prog W 0 (fun _ => true) true Try.f3.params.toList args.toList ds p := hA0
  rw [Try.params3] at hA hval hsz
  have hAk := hA
  obtain ⟨v0, vs0, d0, ds0, p0, q0, hargs, rfl, rfl, h0, r0⟩ := trodAll_cons hA
  obtain ⟨v1, vs1, d1, ds1, p1, q1, rfl, rfl, rfl, h1, r1⟩ := trodAll_cons r0
  obtain ⟨rfl, rfl, rfl⟩ := trodAll_nil r1
  obtain rfl : args = #[v0, v1] := by cases args; simp_all
  obtain ⟨rfl, rfl⟩ := trodVars_none hV
  obtain ⟨a0, rfl, rfl, rfl, w0⟩ := open_int Try.underlying3 (hval 0 3 v0 rfl rfl) h0
  obtain ⟨a1, l1, k1, L1, rfl, w1⟩ := open_slice_flat (ks := [.int .i64, .int .i64]) (bytes := 16) 8 Try.underlying22 (by kernel_rfl) (by kernel_rfl) (by decide) (by kernel_rfl) (hval 1 22 v1 rfl rfl) h1 (fun elems rest hd => by subst hd; exact sized_slice hsz (j := 1) (t := 22) (e := 30) rfl rfl Try.underlying22)
  clear hA0 hval0 hsz0
  refine (walk W a0 w0 a1 l1 k1 L1 w1).mono fun e W' ⟨he, bel⟩ => ?_
  subst he
  exact ⟨_, rfl, _, _, _, [], _, [], hW', trodAll_mk1 (shut_bool Try.underlying4 _), trodAll_below laidOut bel _ _ _ _ (by kernel_rfl) hAk, rfl, bel.frame _, fun h => by cases h⟩

theorem over : Rows.ringPlaysRow.holds Try.pinned (OpenSpec.ofChange Rows.ringPlaysSpec) :=
  OpenClaim.holds_of_wide 3 Try.f3 rfl rfl rfl rfl rfl rfl rfl ⟨rfl, rfl, rfl, rfl, rfl⟩ rfl rfl rfl rfl rfl (by kernel_rfl) Try.func3 (by kernel_rfl)
    (of_decide_eq_true (by kernel_rfl)) (by unfold Func.isWrapper; first | (rw [if_pos (by decide +kernel)]; kernel_rfl) | (rw [if_neg (by decide +kernel)]; exact ⟨rfl, rfl⟩))
    (fun os started H enc _ => lifted os started H enc)

theorem proved : Rows.RingPlaysSaid := over
#print axioms proved
end Go.Proofs.Ytlfeenibepmicaa.ringPlays
